import Derived.Test.YtkbpocecbcaiiabGreatDoorO55
namespace Go.Proofs.YtkbpocecbcaiiabGreatDoor
open Go.RowKit
theorem play_init {L:Lay} (hT:LayT L) (hO:LayOK L):Play L (RBx.init L) (Wd.begin L):=by
 have hl:∀r,(RBx.init L).line r=RLn0:=fun r=>z0z _ _ _ _ rfl;have hp:∀r,((RBx.init L).line r).ph=46:=fun r=>by rw[hl]; rfl
 have hlk:∀s r,(RBx.init L).lockB s r=false:=fun s r=>by unfold RBx.lockB; rw[hp]; rfl
 have d0:∀t,(Wd.begin L).done.getD t 0=0:=fun t=>z0z _ _ _ _ rfl;have h0:∀t,t < L.tns.length->(Wd.begin L).head.getD t 0=-1:=fun t ht=>getD_repq _ _ _ _ ht;have g0:∀t,(Wd.begin L).gone.getD t false=false:=fun t=>z0z _ _ _ _ rfl;have hon:∀t s,t < L.tns.length->(Wd.begin L).onB L t s=true->s=(L.tn t).start:=fun t s ht h=>by
  rcases (z4a.1 h).2 with ⟨-,e⟩ | ⟨e,-⟩
  ·unfold Wd.stand at e
   rw[if_pos (d0 t)] at e;exact e.symm
  ·rw[h0 t ht] at e; omega
 refine⟨⟨_,init_sim⟩,init_inv hO,rfl,WantOK.init L,KJ.init L,WtOK.init L,hT.s0,⟨fun r hr=>absurd (hp r) hr,fun t ht _=>⟨?_,by rw[h0 t ht]; omega⟩,fun t ht hg=>?_,fun t ht=>by rw[d0]; omega,fun t ht=>by rw[h0 t ht]; omega,fun r s t hx=>?_,fun t u s ht hu h1 h2=>hT.st t u ht hu ((hon t s ht h1).symm.trans (hon u s hu h2))⟩,⟨by simp[Wd.begin],by simp[Wd.begin],by simp[Wd.begin]⟩,⟨fun x hx=>.inl (getD_repq _ _ _ _ (sw_lt hx)),fun x hx=>.inl (z0z _ _ _ _ rfl)⟩,fun x=>z0z _ _ _ _ rfl,fun x hx=>.inl ⟨z0z _ _ _ _ rfl,?_,z0z _ _ _ _ rfl⟩,fun r x _ h=>?_,fun r h=>?_,⟨by simp[Wd.begin],by simp[Wd.begin],by simp[Wd.begin],by simp[Wd.begin]⟩,fun x=>?_⟩
 ·rw[d0]; exact z0z _ _ _ _ rfl
 ·rw[g0] at hg; cases hg
 ·rw[hlk] at hx; cases hx
 ·have e1:(Wd.begin L).lie.getD x 0=43:=getD_repq _ _ _ _ (sw_lt hx)
  rw[e1];show 43=(L.sw.map (fun b=>if b then 43 else 0)).getD x 0;have hxl:=sw_lt hx;rw[z05 (by simpa using hxl),List.getElem_map];rw[z05 hxl] at hx;rw[hx]; rfl
 ·have:=hp r
  rcases h with h | ⟨h,-⟩ <;> omega
 ·have:=hp r
  have:=h.ph;omega
 ·have:(Wd.begin L).left.getD x 0=0:=z0z _ _ _ _ rfl
  omega
structure RoundP (L:Lay) (C:RBx) (W:Wd) (ask go:Nat->Bool) (slow:Nat):Prop where
 cy:Cyc L C W (L.frOf (frW W L ask L.tns.length)) (W.tickN L (z03 0 L.sw).length)
 ec:C.cyc (frW W L ask L.tns.length)=C.s4 (L.frOf (frW W L ask L.tns.length))
 mi:Mid L (C.s4 (L.frOf (frW W L ask L.tns.length))) (W.turned L C (frW W L ask L.tns.length) slow)
 ss:SameT W (W.turned L C (frW W L ask L.tns.length) slow)
 la:∀r,r < L.rts.length->pk (laS C (frW W L ask L.tns.length)) r=if ((C.s4 (L.frOf (frW W L ask L.tns.length))).line r).ph=103 then 103 else 114
 mv:∀k,k<=L.tns.length->MI L (C.s4 (L.frOf (frW W L ask L.tns.length))) (W.turned L C (frW W L ask L.tns.length) slow) ((W.turned L C (frW W L ask L.tns.length) slow).moveN L (laS C (frW W L ask L.tns.length)) go k) (laS C (frW W L ask L.tns.length)) go k
 ok:RoundOK C W L ask go slow
 pl:Play L (C.cyc (frW W L ask L.tns.length)) ((W.turned L C (frW W L ask L.tns.length) slow).moveN L (laS C (frW W L ask L.tns.length)) go L.tns.length)
theorem SameT.trans {A B C:Wd} (h:SameT A B) (k:SameT B C):SameT A C:=⟨k.1.trans h.1,k.2.1.trans h.2.1,k.2.2.1.trans h.2.2.1,k.2.2.2.trans h.2.2.2⟩
theorem round_ok {L:Lay} (hT:LayT L) {C:RBx} {W:Wd} (P:Play L C W) (ask go:Nat->Bool) {slow:Nat} (hsl:slow < L.T):RoundP L C W ask go slow:=by
 obtain⟨FF,-⟩:=frW_fact hT P.sl P.sv ask;obtain⟨B,hs⟩:=P.sim;have eL:=P.eL;have S:=stages hs P.inv (frW W L ask L.tns.length) (by rw[eL]; exact FF.good);rw[eL] at S;have hT9:L.T<=9:=by have:=P.inv.lay.T.2; rw[eL] at this; exact this
 have cy:Cyc L C W (L.frOf (frW W L ask L.tns.length)) (W.tickN L (z03 0 L.sw).length):=⟨hT,P,S,FF.occ,FF.rep,fun j hj=>(FF.cm j hj).1,fun x hx=>tick_all P.sl hx,z2y W L _⟩
 have ec:C.cyc (frW W L ask L.tns.length)=C.s4 (L.frOf (frW W L ask L.tns.length)):=by
  unfold RBx.cyc;rw[eL,if_pos FF.good]
 have hwo:WantOK (C.s4 (L.frOf (frW W L ask L.tns.length))):=(s4_ok (by rw[eL]; exact hT.sg) P.wo _).1;have hmo:∀k (hk:k < (z03 0 L.sw).length),pk (moS C (frW W L ask L.tns.length)) k=(C.s4 (L.frOf (frW W L ask L.tns.length))).moveF (L.frOf (frW W L ask L.tns.length)) (z03 0 L.sw)[k]:=fun k hk=>by
  have:=mo_pk (C:=C) (s:=frW W L ask L.tns.length) (by rw[eL]; exact hwo) (by rw[eL]; exact S.l4.trans eL) (k:=k) (by rw[eL]; exact hk);simp only[eL] at this;exact this
 have hss:SameT W (W.turned L C (frW W L ask L.tns.length) slow):=(z2y W L _).trans (z5u _ L _ slow _);have hlV:=tickN_len P.sl (z03 0 L.sw).length;have hlW:SwLen L (W.turned L C (frW W L ask L.tns.length) slow):=turnN_len hlV _ _ _;have htu:∀x,L.sw.getD x false=true->TurnAt (W.tickN L (z03 0 L.sw).length) (W.turned L C (frW W L ask L.tns.length) slow) x ((C.s4 (L.frOf (frW W L ask L.tns.length))).moveF (L.frOf (frW W L ask L.tns.length)) x) slow:=fun x hx=>by
  obtain⟨k,hk,e⟩:=pts_ix hx;have:=(turnN_at hlV (moS C (frW W L ask L.tns.length)) slow x _ (Nat.le_refl _)).2 k hk hk e;rw[hmo k hk,e] at this;exact this
 have hnot:∀x,L.sw.getD x false=false->∀j (hj:j < (z03 0 L.sw).length),(z03 0 L.sw)[j]≠x:=fun x hx j hj e=>by
  have:=pts_sw (List.getElem_mem hj);rw[e,hx] at this;cases this
 have hlb:∀x,(W.tickN L (z03 0 L.sw).length).left.getD x 0<=9:=fun x=>by
  have h9:=P.lb x;by_cases hx:L.sw.getD x false=true
  ·rw[(tick_all P.sl hx).2.2]
   unfold tkF;split <;> omega
  ·rw[((tickN_at P.sl x _ (Nat.le_refl _)).1 (fun j hj _=>hnot x (by simpa using hx) j hj)).2.2]
   exact h9
 have mi:=cy.mid (Wt:=W.turned L C (frW W L ask L.tns.length) slow) hsl hT9 hlb (z5u _ L _ slow _) hlW hwo htu (fun x hx=>((turnN_at hlV (moS C (frW W L ask L.tns.length)) slow x _ (Nat.le_refl _)).1 (fun j hj _=>hnot x hx j hj)).2.2);have hll:(C.s4 (L.frOf (frW W L ask L.tns.length))).lines.length=L.rts.length:=by rw[S.i4.ll,S.l4,eL]
 have la:∀r,r < L.rts.length->pk (laS C (frW W L ask L.tns.length)) r=if ((C.s4 (L.frOf (frW W L ask L.tns.length))).line r).ph=103 then 103 else 114:=fun r hr=>by
  have:=lamp_pk (C:=C) (s:=frW W L ask L.tns.length) (r:=r) (by rw[eL,hll]; exact hr);rw[eL] at this;exact this
 have e4:(C.s4 (L.frOf (frW W L ask L.tns.length))).L=L:=S.l4.trans eL;have kj4:KJ (C.cyc (frW W L ask L.tns.length)):=P.kj.cyc hs P.inv _;rw[ec] at kj4;have hwl:WLen L (W.turned L C (frW W L ask L.tns.length) slow):=by
  obtain⟨a,b,c,d⟩:=hss;exact⟨by rw[a]; exact P.wl.d,by rw[b]; exact P.wl.h,by rw[c]; exact P.wl.t,by rw[d]; exact P.wl.g⟩
 have mv:=moves_ok go hT S.i4 e4 kj4.ki.1 mi.tr mi.li hwl la;have MN:=mv L.tns.length (Nat.le_refl _);refine⟨cy,ec,mi,hss,la,mv,⟨fun t ht=>P.tr.wok hT ht,fun x=>by have:=P.lb x; omega,by rw[eL]; exact FF.good,fun k hk=>?_,fun t ht hgo=>?_⟩,?_⟩
 ·rw[hmo k hk]
  rcases move_or (C.s4 (L.frOf (frW W L ask L.tns.length))) (L.frOf (frW W L ask L.tns.length)) (z03 0 L.sw)[k] with e | ⟨-,e⟩
  ·exact .inl e
  ·right; right
   rw[z05 hk,<-FF.occ _ (sw_lt (pts_sw (List.getElem_mem hk)))];exact e
 ·have ih:=mv t (by omega)
  have M:=move_ok hT S.i4 e4 kj4.ki.1 ih.tr (lies_sw mi.li ih.sw.1 ih.sw.2.1) ih.wl la (t:=t) ht (by simp);exact⟨M.wk,M.e1,M.e2⟩
 ·rw[ec]
  obtain⟨w1,w2,w3⟩:=MN.sw;have hsc:=hs.cyc P.inv (frW W L ask L.tns.length);rw[ec] at hsc;refine⟨⟨_,hsc.2.2.1⟩,S.i4,e4,hwo,kj4,P.wt.s4 S,?_,MN.tr.flag S.i4 e4 (fun _ _ _=>rfl),⟨by rw[w2]; exact mi.sl.l,by rw[w1]; exact mi.sl.a,by rw[w3]; exact mi.sl.f⟩,⟨fun x hx=>by rw[w2]; exact mi.sv.lie x hx,fun x hx=>by rw[w1]; exact mi.sv.aim x hx⟩,fun x=>?_,fun x hx=>?_,lies_sw mi.li w1 w2,?_,MN.wl,fun x=>by rw[w3]; exact mi.lb x⟩
  ·have e3:(C.s3 (L.frOf (frW W L ask L.tns.length))).sta=C.sta:=by
    apply list_ext0
    ·rw[S.i3.st,S.l3,P.inv.st]
    ·intro t _
     rw[cy.s3k.2.2.2.2.1];exact cy.sta2 t
   rcases z5a (C.s3 (L.frOf (frW W L ask L.tns.length))) (L.frOf (frW W L ask L.tns.length)) (C.s3 (L.frOf (frW W L ask L.tns.length))).waits.length with ⟨a,-⟩ | a
   ·show L.sound ((C.s3 (L.frOf (frW W L ask L.tns.length))).grantN _ _).sta=true
    rw[a,e3]; exact P.snd
   ·rw[cy.s3k.2.2.2.2.2] at a
    exact a
  ·rw[(s4_late C _).2.1,cy.s3k.2.1]; exact cy.nf1 x
  ·rcases mi.sw x hx with ⟨a,b,c⟩ | ⟨a,b,c⟩
   ·exact .inl ⟨by rw[w1]; exact a,by rw[w2]; exact b,c⟩
   ·exact .inr ⟨by rw[w1]; exact a,by rw[w3]; exact b,c⟩
  ·refine behind_moved hT S.i4 e4 mi.tr MN hwl (fun r s hp hg=>?_)
   have hp':PastIt L W s ((C.s4 (L.frOf (frW W L ask L.tns.length))).line r).train r ((C.s4 (L.frOf (frW W L ask L.tns.length))).line r):=by
    obtain⟨a,b,c,-⟩:=hss.gd ((C.s4 (L.frOf (frW W L ask L.tns.length))).line r).train;exact⟨hp.ph,by rw[<-a]; exact hp.es,by rw[<-a]; exact hp.d,by rw[<-a]; exact hp.er,by rw[<-b]; exact hp.h,hp.m⟩
   have:=cy.behind hp' hg;rw[hss.taken];exact this
def lrem (L:Lay) (W:Wd) (t r:Nat) (x:RLn):Nat:=
 if W.head.getD t 0 < 0 then (if x.ph=116 then plen L r - x.gone else 3*plen L r)
 else (2*((plen L r:Int) - 1) - (W.head.getD t 0+W.tail.getD t 0)).toNat+plen L r
def remF (L:Lay) (C:RBx) (W:Wd) (t:Nat):Nat:=match (List.range C.lines.length).find? (C.setB t) with
 | some r=>lrem L W t r (C.line r)
 | none=>0
def nu (L:Lay) (C:RBx) (W:Wd) (t:Nat):Nat:=20*((L.tn t).jny.length - C.sta.getD t 0)+remF L C W t+(if W.gone.getD t false then 0 else 1)
theorem rem_set {L:Lay} {C:RBx} (W:Wd) (hi:Inv C) {t r:Nat} (hp:(C.line r).ph≠46) (ht:(C.line r).train=t):remF L C W t=lrem L W t r (C.line r):=by
 unfold remF;have hs:C.setB t r=true:=by
  unfold RBx.setB;simp only[Bool.and_eq_true,bne_iff_ne,beq_iff_eq];exact⟨hp,ht⟩
 cases hf:(List.range C.lines.length).find? (C.setB t) with
 | none=>
  exfalso;rw[List.find?_eq_none] at hf;exact hf r (List.mem_range.2 (z14 hp)) hs
 | some q=>
  have hq:=List.find?_some hf;unfold RBx.setB at hq;simp only[Bool.and_eq_true,bne_iff_ne,beq_iff_eq] at hq;have:=hi.one q r (by rw[<-hi.ll]; exact z14 hq.1) (by rw[<-hi.ll]; exact z14 hp) hq.1 hp (hq.2.trans ht.symm);rw[this]
theorem rem_no {L:Lay} {C:RBx} (W:Wd) {t:Nat} (h:∀r,(C.line r).ph≠46->(C.line r).train≠t):remF L C W t=0:=by
 unfold remF;have hf:(List.range C.lines.length).find? (C.setB t)=none:=by
  rw[List.find?_eq_none];intro r _ hs;unfold RBx.setB at hs;simp only[Bool.and_eq_true,bne_iff_ne,beq_iff_eq] at hs;exact h r hs.1 hs.2
 rw[hf]
theorem calm_green {L:Lay} {C:RBx} {W V:Wd} {f:Fr} (h:Cyc L C W f V) (h0:∀x,W.left.getD x 0=0) {s r:Nat} (hS:Stood L W s (C.line r).train r (C.line r)):C.right f r=true/\C.busy f r=false:=by
 have eL:=h.P.eL;have hp:(C.line r).ph≠46:=by have:=hS.1; omega
 have hr:=h.rt hp;have hrC:r < C.L.rts.length:=by rw[eL]; exact hr
 have ht:=(h.P.inv.tr r hrC hp).1;rw[eL] at ht;refine⟨?_,?_⟩
 ·unfold RBx.right
  rw[List.all_eq_true];intro x hx;unfold RBx.rightB;simp only[Bool.or_eq_true,beq_iff_eq];rw[eL];by_cases hw:L.wantsF r x=0
  ·exact .inl hw
  ·right
   have hsw:=want_sw h.T hr hw;have hwt:=h.P.wt r hS.1 x (by rw[eL]; exact hw);rw[eL] at hwt;have hwo:=h.P.wo x (by rw[eL]; exact hsw);rw[h.rp x hsw,<-hwt];unfold Go.Proofs.YtkbpocecbcaiiabGreatDoor.rp;rw[if_neg (by rw[h0]; omega)];rcases h.P.sw x hsw with a | a
   ·rw[if_neg (by have:=a.1; omega)]; exact a.2.1
   ·have:=a.1
    rw[if_pos (by omega)]; exact this
 ·unfold RBx.busy busyF
  rw[List.any_eq_false];intro y hy;have hm:y∈secs (L.rt r).path:=by unfold RBx.pth at hy; rw[eL] at hy; exact hy
  obtain⟨i,hi,e⟩:=List.mem_iff_getElem.1 hm;have e':psec L r i=y:=by unfold psec; rw[z05 hi]; exact e
  rw[<-e'];intro ho;rw[h.oc _ (psec_lt h.T hr hi)] at ho;obtain⟨u,hu,hon⟩:=z28.1 ho;have hg0:(C.line r).gone=0:=(h.P.inv.li r hrC).g0 (by have:=hS.1; omega);have:=h.P.tr.A r _ u (lock_iff eL hi hp (by omega)) hu hon;rw[this] at hon;rcases (z4a.1 hon).2 with ⟨-,a⟩ | ⟨a,-⟩
  ·rw[z3k h.T ht hS.2.1.2.1,hS.2.1.2.2] at a
   exact z4x h.T hr hi a.symm
  ·have:=hS.2.2; omega
theorem Cyc.keep4 {L:Lay} {C:RBx} {W V:Wd} {f:Fr} (h:Cyc L C W f V) {r:Nat} (hp:((C.s2 f).line r).ph≠46):(C.s4 f).line r=(C.s2 f).line r:=by
 rw[s4_keeps h.S (by rw[h.line3]; exact hp),h.line3]
theorem stay {L:Lay} {C:RBx} {W:Wd} {lm:ByteArray} {e:Nat->Bool} (hT:LayT L) (hi:Inv C) (eL:C.L=L) (h:Trs L C W e) (hla:∀r,r < L.rts.length->pk lm r=if (C.line r).ph=103 then 103 else 114) {t:Nat} (ht:t < L.tns.length) (hh:W.head.getD t 0 < 0) (hn:∀r,(C.line r).train=t->(C.line r).ph≠103) (hwl:WLen L W) :
  (W.move L t lm).head.getD t 0 < 0/\(W.move L t lm).gone.getD t false=(W.gone.getD t false||decide ((L.tn t).jny.length<=W.done.getD t 0)):=by
 unfold Wd.move;by_cases c1:(L.tn t).jny.length<=W.done.getD t 0
 ·rw[if_pos c1]
  refine⟨hh,?_⟩;show (W.gone.set t true).getD t false=_;rw[z0d _ _ _ _ _ (by rw[hwl.g]; exact ht),if_pos rfl,decide_eq_true c1,Bool.or_true]
 ·have hd:W.done.getD t 0 < (L.tn t).jny.length:=by omega
  have c3:¬pk lm (W.rt L t)=103:=fun e=>by
   rw[hla (W.rt L t) (hT.jr t ht _ hd)] at e;have h103:(C.line (W.rt L t)).ph=103:=by
    apply Classical.byContradiction;intro hc;rw[if_neg hc] at e;cases e
   exact hn _ (own_lamp hT hi eL h ht hd hh h103) h103
  rw[if_neg c1,if_pos hh,if_neg c3];refine⟨hh,?_⟩;rw[decide_eq_false c1,Bool.or_false]
theorem calm_step {L:Lay} (hT:LayT L) {C:RBx} {W:Wd} (P:Play L C W) (h0:∀x,W.left.getD x 0=0) (hR:RoundP L C W (fun _=>true) (fun _=>true) 0) {C4:RBx} {U:Wd} (hC:C4=C.s4 (L.frOf (frW W L (fun _=>true) L.tns.length))) (hU:U=(W.turned L C (frW W L (fun _=>true) L.tns.length) 0).moveN L (laS C (frW W L (fun _=>true) L.tns.length)) (fun _=>true) L.tns.length) {t:Nat} (ht:t < L.tns.length) :
  nu L C4 U t<=nu L C W t/\((∃r,(C.line r).ph≠46/\(C.line r).train=t)\/C4.sta.getD t 0≠C.sta.getD t 0\/((L.tn t).jny.length<=W.done.getD t 0/\W.gone.getD t false=false)->nu L C4 U t < nu L C W t):=by
 have cy:=hR.cy;have S:=cy.S;have eL:=P.eL;have e4:C4.L=L:=by rw[hC]; exact S.l4.trans eL
 have i4:Inv C4:=by rw[hC]; exact S.i4
 have mi:=hR.mi;have hla:=hR.la;have hss:=hR.ss;have MN:=hR.mv L.tns.length (Nat.le_refl _);rw[<-hC] at mi hla MN;rw[<-hU] at MN;obtain⟨Wt,hWt⟩:∃X,X=W.turned L C (frW W L (fun _=>true) L.tns.length) 0:=⟨_,rfl⟩
 obtain⟨lm,hlm⟩:∃X,X=laS C (frW W L (fun _=>true) L.tns.length):=⟨_,rfl⟩
 rw[<-hWt] at mi MN hss;rw[<-hlm] at hla MN;have hmv:=MN.mv t ht;rw[if_pos rfl] at hmv;obtain⟨m1,m2,m3,m4⟩:=hmv;obtain⟨s1,s2,s3,s4⟩:=hss.gd t;have hwl:WLen L Wt:=by
  obtain⟨a,b,c,d⟩:=hss;exact⟨by rw[a]; exact P.wl.d,by rw[b]; exact P.wl.h,by rw[c]; exact P.wl.t,by rw[d]; exact P.wl.g⟩
 have hst8:C4.sta.getD t 0<=(L.tn t).jny.length:=by have:=i4.sj t; rw[e4] at this; exact this
 have fin:W.head.getD t 0 < 0->(∀r,(C4.line r).train=t->(C4.line r).ph≠103)->remF L C4 U t+20*((L.tn t).jny.length - C4.sta.getD t 0)<=remF L C W t+20*((L.tn t).jny.length - C.sta.getD t 0) →
   ((∃r,(C.line r).ph≠46/\(C.line r).train=t)\/C4.sta.getD t 0≠C.sta.getD t 0->remF L C4 U t+20*((L.tn t).jny.length - C4.sta.getD t 0) < remF L C W t+20*((L.tn t).jny.length - C.sta.getD t 0)) →
   nu L C4 U t<=nu L C W t/\((∃r,(C.line r).ph≠46/\(C.line r).train=t)\/C4.sta.getD t 0≠C.sta.getD t 0\/((L.tn t).jny.length<=W.done.getD t 0/\W.gone.getD t false=false)->nu L C4 U t < nu L C W t):=fun hh hn h1 h2=>by
  obtain⟨-,y2⟩:=stay hT i4 e4 mi.tr hla ht (by rw[s2]; exact hh) hn hwl;rw[<-m4,s4,s1] at y2;unfold nu;rw[y2];have hb:(if (W.gone.getD t false||decide ((L.tn t).jny.length<=W.done.getD t 0))=true then 0 else 1)<=(if W.gone.getD t false=true then 0 else 1)/\((L.tn t).jny.length<=W.done.getD t 0->W.gone.getD t false=false->(if (W.gone.getD t false||decide ((L.tn t).jny.length<=W.done.getD t 0))=true then 0 else 1) < (if W.gone.getD t false=true then 0 else 1)):=by
   cases hg:W.gone.getD t false with
   | true=>exact⟨by simp,fun _ h=>by cases h⟩
   | false=>
    by_cases hd:(L.tn t).jny.length<=W.done.getD t 0
    ·rw[decide_eq_true hd]; exact⟨by simp,fun _ _=>by simp⟩
    ·rw[decide_eq_false hd]; exact⟨by simp,fun h=>absurd h hd⟩
  refine⟨by omega,fun hor=>?_⟩;rcases hor with a | a | a
  ·have:=h2 (.inl a); omega
  ·have:=h2 (.inr a); omega
  ·have:=hb.2 a.1 a.2; omega
 have free:W.head.getD t 0 < 0->(∀r,((C.s2 (L.frOf (frW W L (fun _=>true) L.tns.length))).line r).ph≠46->((C.s2 (L.frOf (frW W L (fun _=>true) L.tns.length))).line r).train≠t) →
   (∀r,(C4.line r).train=t->(C4.line r).ph≠103)/\(remF L C4 U t=0/\C4.sta.getD t 0=C.sta.getD t 0\/(remF L C4 U t<=18/\C4.sta.getD t 0=C.sta.getD t 0+1)):=fun hh hn=>by
  have h103:∀r,(C4.line r).train=t->(C4.line r).ph≠103:=fun r hr e=>by
   have e2:=cy.line4 (r:=r) (by rw[<-hC]; exact .inl e);rw[<-hC] at e2;rw[e2] at hr e;exact hn r (by omega) hr
  refine⟨h103,?_⟩;obtain⟨y1,-⟩:=stay hT i4 e4 mi.tr hla ht (by rw[s2]; exact hh) h103 hwl;rw[<-m2] at y1;by_cases hx:∀r,(C4.line r).ph≠46->(C4.line r).train≠t
  ·left
   refine⟨rem_no U hx,?_⟩;have a:=(mi.tr.no t ht hx).1;have b:=(cy.tr2.no t ht hn).1;rw[cy.sta2] at b;rw[a,s1,b]
  ·right
   have:∃r,(C4.line r).ph≠46/\(C4.line r).train=t:=by
    apply Classical.byContradiction;intro hc;exact hx (fun r hr e=>hc ⟨r,hr,e⟩)
   obtain⟨r,hr,e⟩:=this;have hrl:r < L.rts.length:=by
    have:=z14 hr;rw[i4.ll,e4] at this;exact this
   have hph:(C4.line r).ph=119:=by
    have:=(mi.tr.ln r hr).ph;rcases this with a | a | a
    ·exact a
    ·exact absurd a (h103 r e)
    ·exfalso
     have e2:=cy.line4 (r:=r) (by rw[<-hC]; exact .inr a);rw[<-hC] at e2;rw[e2] at hr e;exact hn r hr e
   refine⟨?_,?_⟩
   ·rw[rem_set U i4 hr e]
    unfold lrem;rw[if_pos y1,if_neg (by omega)];have:=plen_le hT hrl;omega
   ·have hl:=mi.tr.ln r hr
    rw[e] at hl;have b:=(cy.tr2.no t ht hn).1;rw[cy.sta2] at b;rcases hl with a | a | a | a
    ·rw[a.2.1.1,s1,b]
    ·cases a.1
    ·have:=a.2.ph; omega
    ·have:=a.ph; omega
 by_cases hset:∃r,(C.line r).ph≠46/\(C.line r).train=t
 ·obtain⟨r,hr,e⟩:=hset
  have hrl:=cy.rt hr;have hpl:=plen_pos hT hrl;have hpl6:=plen_le hT hrl;have hrem:=rem_set (L:=L) W P.inv hr e;rcases cy.s2 r with ⟨c1,-⟩ | ⟨-,c2⟩
  ·exact absurd c1 hr
  rw[e] at c2;rcases c2 with c2 | c2 | c2 | c2
  ·
   obtain⟨hS,hY,htr,hgo,hgr⟩:=c2;have hcg:=calm_green cy h0 (r:=r) (s:=C.sta.getD t 0) (by rw[e]; exact hS);have hy:=hgr hcg.1 hcg.2;have hk:=cy.keep4 (r:=r) (by omega);rw[<-hC] at hk;have h4:(C4.line r).ph=103:=by rw[hk]; exact hy
   have h4t:(C4.line r).train=t:=by rw[hk]; exact htr
   have hd:Wt.done.getD t 0 < (L.tn t).jny.length:=by rw[s1]; exact hS.2.1.2.1
   have hrr:Wt.rt L t=r:=by unfold Wd.rt; rw[s1]; exact hS.2.1.2.2
   have hmove:Wt.move L t lm={ Wt with tail:=Wt.tail.set t (-1),head:=Wt.head.set t 0 }:=by
    unfold Wd.move;rw[if_neg (by omega),if_pos (by rw[s2]; exact hS.2.2),if_pos (by rw[hrr,hla r hrl,if_pos h4])]
   have u2:U.head.getD t 0=0:=by
    rw[m2,hmove];show (Wt.head.set t 0).getD t 0=0;rw[z0d _ _ _ _ _ (by rw[hwl.h]; exact ht),if_pos rfl]
   have u3:U.tail.getD t 0=-1:=by
    rw[m3,hmove];show (Wt.tail.set t (-1)).getD t 0=-1;rw[z0d _ _ _ _ _ (by rw[hwl.t]; exact ht),if_pos rfl]
   have u4:U.gone.getD t false=W.gone.getD t false:=by rw[m4,hmove,<-s4]
   have hl:=mi.tr.ln r (by omega);rw[h4t] at hl;have hsta:C4.sta.getD t 0=C.sta.getD t 0:=by
    rcases hl with a | a | a | a
    ·rw[a.2.1.1,s1,hS.2.1.1]
    ·cases a.1
    ·have:=a.2.ph; omega
    ·have:=a.ph; omega
   have hlt:nu L C4 U t < nu L C W t:=by
    have r1:lrem L W t r (C.line r)=3*plen L r:=by
     unfold lrem;rw[if_pos hS.2.2,if_neg (show ¬(C.line r).ph=116 by rcases hS.1 with a | a <;> omega)]
    have r2:lrem L U t r (C4.line r)=3*plen L r - 1:=by
     unfold lrem;rw[u2,u3,if_neg (by omega)];omega
    unfold nu;rw[hsta,u4,hrem,rem_set U i4 (by omega) h4t,r1,r2];omega
   exact⟨by omega,fun _=>hlt⟩
  ·
   obtain⟨hX,⟨hA,hO⟩,htr⟩:=c2;have hk:=cy.keep4 (r:=r) (by have:=hO.ph; omega);rw[<-hC] at hk;have h4:(C4.line r).ph=116:=by rw[hk]; exact hO.ph
   have h4t:(C4.line r).train=t:=by rw[hk]; exact htr
   have hh0:=hO.h0;have hhl:=hO.hl;have htt:=hO.tt;have hd:Wt.done.getD t 0 < (L.tn t).jny.length:=by rw[s1]; exact hA.2.1
   have hrr:Wt.rt L t=r:=by unfold Wd.rt; rw[s1]; exact hA.2.2
   have hpw:Wt.plen L t=plen L r:=by unfold Wd.plen plen; rw[hrr]
   have hl:=mi.tr.ln r (by omega);rw[h4t] at hl;have hsta:C4.sta.getD t 0=C.sta.getD t 0:=by
    rcases hl with a | a | a | a
    ·have:=a.1; omega
    ·cases a.1
    ·rw[a.1.1,s1,hA.1]
    ·have:=a.h; omega
   have hlt:nu L C4 U t < nu L C W t:=by
    have hbase:lrem L W t r (C.line r)=(2*((plen L r:Int) - 1) - (W.head.getD t 0+W.tail.getD t 0)).toNat+plen L r:=by
     unfold lrem;rw[if_neg (by omega)]
    unfold nu;rw[hsta,hrem,hbase,rem_set U i4 (by omega) h4t];have hmove:=m2;have hmoveT:=m3;have hmoveG:=m4;unfold Wd.move at hmove hmoveT hmoveG;rw[if_neg (by omega),if_neg (by omega)] at hmove hmoveT hmoveG;by_cases c4:Wt.tail.getD t 0=Wt.head.getD t 0
    ·rw[if_pos c4] at hmove hmoveT hmoveG
     have u2:U.head.getD t 0=W.head.getD t 0+1:=by
      rw[hmove];show (Wt.head.set t _).getD t 0=_;rw[z0d _ _ _ _ _ (by rw[hwl.h]; exact ht),if_pos rfl,s2]
     have u3:U.tail.getD t 0=W.tail.getD t 0:=hmoveT.trans s3;have u4:U.gone.getD t false=W.gone.getD t false:=hmoveG.trans s4;have hn1:=hO.tn (by omega);have r2:lrem L U t r (C4.line r)=(2*((plen L r:Int) - 1) - (W.head.getD t 0+1+W.tail.getD t 0)).toNat+plen L r:=by
      unfold lrem;rw[u2,u3,if_neg (by omega)]
     rw[u4,r2];omega
    ·rw[if_neg c4,hpw] at hmove hmoveT hmoveG
     by_cases c5:Wt.head.getD t 0=(plen L r:Int) - 1
     ·rw[if_pos c5] at hmove hmoveT hmoveG
      have u2:U.head.getD t 0=-1:=by
       rw[hmove];show (Wt.head.set t _).getD t 0=_;rw[z0d _ _ _ _ _ (by rw[hwl.h]; exact ht),if_pos rfl]
      have u4:U.gone.getD t false=W.gone.getD t false:=hmoveG.trans s4;have r2:lrem L U t r (C4.line r)=plen L r - (C4.line r).gone:=by
       unfold lrem;rw[u2,if_pos (by omega),if_pos h4]
      rw[u4,r2];omega
     ·rw[if_neg c5] at hmove hmoveT hmoveG
      have u2:U.head.getD t 0=W.head.getD t 0:=hmove.trans s2;have u3:U.tail.getD t 0=W.head.getD t 0:=by
       rw[hmoveT];show (Wt.tail.set t _).getD t 0=_;rw[z0d _ _ _ _ _ (by rw[hwl.t]; exact ht),if_pos rfl,s2]
      have u4:U.gone.getD t false=W.gone.getD t false:=hmoveG.trans s4;have r2:lrem L U t r (C4.line r)=(2*((plen L r:Int) - 1) - (W.head.getD t 0+W.head.getD t 0)).toNat+plen L r:=by
       unfold lrem;rw[u2,u3,if_neg (by omega)]
      rw[u4,r2];omega
   exact⟨by omega,fun _=>hlt⟩
  ·
   obtain⟨hX,hY⟩:=c2;have hgl:=(P.inv.li r (by rw[eL]; exact hrl)).ps hX.ph;rw[eL] at hgl;have hpl2:plen L r=(L.rt r).path.length:=by unfold plen; rw[z0o]
   have hn:∀q,((C.s2 (L.frOf (frW W L (fun _=>true) L.tns.length))).line q).ph≠46->((C.s2 (L.frOf (frW W L (fun _=>true) L.tns.length))).line q).train≠t:=fun q hq hqt=>by
    rcases cy.s2 q with ⟨d1,d2⟩ | ⟨d1,d2⟩
    ·rw[d2] at hq; exact hq d1
    ·have d3:=(d2.tr hq).1
     have:=P.inv.one q r (by rw[eL]; exact cy.rt d1) (by rw[eL]; exact hrl) d1 hr (by rw[e,<-d3]; exact hqt);subst this;rw[hY] at hq;exact hq rfl
   obtain⟨f1,f2⟩:=free hX.h hn;have hb:lrem L W t r (C.line r)=plen L r - (C.line r).gone:=by unfold lrem; rw[if_pos hX.h,if_pos hX.ph]
   refine fin hX.h f1 ?_ ?_
   ·rw[hrem,hb]; omega
   ·intro hz; clear hz; rw[hrem,hb]; omega
  ·
   obtain⟨hX,hY,htr,k1,k2⟩:=c2;have hgl:=(P.inv.li r (by rw[eL]; exact hrl)).ps hX.ph;rw[eL] at hgl;have hpl2:plen L r=(L.rt r).path.length:=by unfold plen; rw[z0o]
   have hlt:(C.line r).gone+1 < plen L r:=by
    rcases Nat.lt_or_ge ((C.line r).gone+1) (plen L r) with a | a
    ·exact a
    ·exfalso
     have a':(C.line r).gone+1=plen L r:=by omega
     have:=(P.be r (by rw[e]; exact hX) a').1;rw[(k2 a').1] at this;cases this
   have hyg:=k1 hlt;have hk:=cy.keep4 (r:=r) (by have:=hY.ph; omega);rw[<-hC] at hk;have h4:(C4.line r).ph=116:=by rw[hk]; exact hY.ph
   have h4t:(C4.line r).train=t:=by rw[hk]; exact htr
   have hl:=mi.tr.ln r (by omega);rw[h4t] at hl;have hsta:C4.sta.getD t 0=C.sta.getD t 0:=by
    have hh:=hX.h;rcases hl with a | a | a | a
    ·have:=a.1; omega
    ·cases a.1
    ·have:=a.2.h0; omega
    ·rw[a.es,s1,hX.es]
   have f1:∀q,(C4.line q).train=t->(C4.line q).ph≠103:=fun q hq hqp=>by
    have:=i4.one q r (by rw[<-i4.ll]; exact z14 (by omega)) (by rw[e4]; exact hrl) (by omega) (by omega) (hq.trans h4t.symm);subst this;omega
   obtain⟨y1,-⟩:=stay hT i4 e4 mi.tr hla ht (by rw[s2]; exact hX.h) f1 hwl;rw[<-m2] at y1;have hb:lrem L W t r (C.line r)=plen L r - (C.line r).gone:=by unfold lrem; rw[if_pos hX.h,if_pos hX.ph]
   have hb4:remF L C4 U t=plen L r - ((C.line r).gone+1):=by
    rw[rem_set U i4 (by omega) h4t];unfold lrem;rw[if_pos y1,if_pos h4,hk,hyg]
   refine fin hX.h f1 ?_ ?_
   ·rw[hrem,hb,hb4,hsta]; omega
   ·intro hz; clear hz; rw[hrem,hb,hb4,hsta]; omega
 ·have hno:∀r,(C.line r).ph≠46->(C.line r).train≠t:=fun r hr e=>hset ⟨r,hr,e⟩
  have hh:=(P.tr.no t ht hno).2;have hn:∀q,((C.s2 (L.frOf (frW W L (fun _=>true) L.tns.length))).line q).ph≠46->((C.s2 (L.frOf (frW W L (fun _=>true) L.tns.length))).line q).train≠t:=fun q hq hqt=>by
   rcases cy.s2 q with ⟨d1,d2⟩ | ⟨d1,d2⟩
   ·rw[d2] at hq; exact hq d1
   ·exact hno q d1 ((d2.tr hq).1.symm.trans hqt)
  obtain⟨f1,f2⟩:=free hh hn;refine fin hh f1 ?_ ?_
  ·rw[rem_no W hno]; omega
  ·intro hor
   rw[rem_no W hno];rcases hor with a | a
   ·exact absurd a hset
   ·omega
theorem soundF_up (L:Lay):∀(k:Nat) (at_:List Nat),L.soundF k at_=true->L.soundF (k+1) at_=true
 | 0,at_,h=>by
  unfold Lay.soundF at h ⊢;rw[h,Bool.true_or]
 | k+1,at_,h=>by
  unfold Lay.soundF at h;show (L.allDone at_||(List.range at_.length).any (fun t=>!L.doneB at_ t&&L.runsB at_ t&&L.soundF (k+1) (L.withN at_ t)))=true;rw[Bool.or_eq_true] at h ⊢;rcases h with h | h
  ·exact .inl h
  ·right
   rw[List.any_eq_true] at h ⊢;obtain⟨t,h1,h2⟩:=h;simp only[Bool.and_eq_true] at h2;exact⟨t,h1,by simp only[Bool.and_eq_true]; exact⟨h2.1,soundF_up L k _ h2.2⟩⟩
theorem sound_first {L:Lay} {at_:List Nat} (h:L.sound at_=true) (hn:L.allDone at_=false):∃t m,at_.length=m+1/\t < at_.length/\L.doneB at_ t=false/\L.runsB at_ t=true/\L.soundF m (L.withN at_ t)=true:=by
 unfold Lay.sound at h;cases hl:at_.length with
 | zero=>
  rw[hl] at h;unfold Lay.soundF at h;rw[hn] at h; cases h
 | succ m=>
  rw[hl] at h;unfold Lay.soundF at h;rw[hn,Bool.false_or,List.any_eq_true] at h;obtain⟨t,h1,h2⟩:=h;simp only[Bool.and_eq_true,Bool.not_eq_true'] at h2;rw[List.mem_range,hl] at h1;exact⟨t,m,rfl,h1,h2.1.1,h2.1.2,h2.2⟩
theorem sound_more {L:Lay} {at_:List Nat} {t m:Nat} (hl:at_.length=m+1) (ht:t < at_.length) (hd:L.doneB at_ t=false) (hr:L.runsB at_ t=true) (hs:L.soundF m (L.withN at_ t)=true):L.sound (at_.set t (at_.getD t 0+1))=true:=by
 have hlt:at_.getD t 0 < (L.tn t).jny.length:=by
  unfold Lay.doneB at hd
  simpa using hd
 have hg:(at_.set t (at_.getD t 0+1)).getD t 0=at_.getD t 0+1:=by rw[z0d _ _ _ _ _ ht,if_pos rfl]
 unfold Lay.sound;rw[List.length_set,hl];by_cases hd':L.doneB (at_.set t (at_.getD t 0+1)) t=true
 ·apply soundF_up
  have:(L.tn t).jny.length=at_.getD t 0+1:=by
   unfold Lay.doneB at hd';rw[hg] at hd';have:=of_decide_eq_true hd';omega
  unfold Lay.withN at hs;rw[this] at hs;exact hs
 ·show (L.allDone _||(List.range _).any _)=true
  rw[Bool.or_eq_true];right;rw[List.any_eq_true];refine⟨t,List.mem_range.2 (by rw[List.length_set]; exact ht),?_⟩;have hd2:L.doneB (at_.set t (at_.getD t 0+1)) t=false:=by simpa using hd'
  have e1:L.withN (at_.set t (at_.getD t 0+1)) t=L.withN at_ t:=by
   unfold Lay.withN;rw[List.set_set]
  rw[hd2,e1,hs,Bool.and_true,Bool.not_false,Bool.true_and];unfold Lay.runsB at hr ⊢;rw[List.all_eq_true] at hr ⊢;intro r hrm;rw[hg] at hrm;have:=hr r (drop_sub (by omega) hrm);rw[List.all_eq_true] at this ⊢;intro o ho;rw[List.length_set] at ho;have h2:=this o ho;by_cases e:o=t
  ·simp[e]
  ·have e3:L.holds (at_.set t (at_.getD t 0+1)) o=L.holds at_ o:=by
    unfold Lay.holds Lay.doneB;rw[z0h _ _ _ _ _ e]
   rw[e3];exact h2
theorem nodup_len:∀(n:Nat) (l:List Nat),l.Nodup->(∀x,x∈l->x < n)->l.length<=n
 | 0,l,_,h=>by
  cases l with
  | nil=>exact Nat.le_refl _
  | cons a l=>exact absurd (h a (List.mem_cons_self ..)) (Nat.not_lt_zero _)
 | n+1,l,hn,h=>by
  by_cases hm:n∈l
  ·have h1:=nodup_len n (l.erase n) (hn.erase n) (fun x hx=>by
    have h2:=(List.Nodup.mem_erase_iff hn).1 hx;have:=h x h2.2;omega)
   rw[List.length_erase_of_mem hm] at h1;omega
  ·have:=nodup_len n l hn (fun x hx=>by
    have:=h x hx;have hne:x≠n:=fun e=>hm (e ▸ hx);omega)
   omega
theorem asks_all {C:RBx} {f:Fr} (n:Nat) (hn:n=C.L.tns.length) (hQ:n<=C.L.Q) (hc:∀j,j < n->pk f.cmds (2*j)=114/\pk f.cmds (2*j+1)=49+j) (hi:∀k,k<=n->Inv (C.doN f k)):∀k,k<=n->∀t,t < k->C.sta.getD t 0 < (C.L.tn t).jny.length->t∈(C.doN f k).waits
 | 0,_,t,ht,_=>absurd ht (Nat.not_lt_zero _)
 | k+1,hk,t,ht,hs=>by
  have ih:=asks_all n hn hQ hc hi k (by omega);obtain⟨-,-,-,-,k5,k6⟩:=doN_ask C f k (fun j hj=>(hc j (by omega)).1);have e:C.doN f (k+1)=(C.doN f k).ask k:=by
   show (C.doN f k).doC f (pk f.cmds (2*k)) (pk f.cmds (2*k+1))=_;unfold RBx.doC;rw[if_pos (hc k (by omega)).1,(hc k (by omega)).2,Nat.add_sub_cancel_left]
  rw[e];have hsub:∀x,x∈(C.doN f k).waits->x∈((C.doN f k).ask k).waits:=fun x hx=>by
   unfold RBx.ask;split
   ·exact List.mem_append_left _ hx
   ·exact hx
  by_cases htk:t=k
  ·subst htk
   by_cases hw:t∈(C.doN f t).waits
   ·exact hsub t hw
   ·have I:=hi t (by omega)
    have hlen:(C.doN f t).waits.length < n:=by
     have h1:=nodup_len n (t :: (C.doN f t).waits) (List.nodup_cons.2 ⟨hw,I.wn⟩) (fun x hx=>by
      rcases List.mem_cons.1 hx with e | hx
      ·omega
      ·have:=(I.wt x hx).1
       rw[k6,<-hn] at this;exact this)
     simp only[List.length_cons] at h1;omega
    have ha:(C.doN f t).askA t=113:=by
     unfold RBx.askA;have h1:¬0 < z26 (C.doN f t).waits t:=fun h=>hw (by simpa using (z5r _ _).1 h);rw[k5,k6,if_neg (by omega),if_neg h1,if_neg (by omega)]
    unfold RBx.ask;rw[if_pos ha];exact List.mem_append_right _ (List.mem_cons_self ..)
  ·exact hsub t (ih t (by omega) hs)
theorem serv_nil (C:RBx) (f:Fr):∀k,C.servN f k=[]->C.grantN f k=C/\∀j,j < k->C.grantB f (C.waits.getD j 0)=false
 | 0,_=>⟨rfl,fun j hj=>absurd hj (Nat.not_lt_zero _)⟩
 | k+1,h=>by
  have e:C.servN f (k+1)=if (C.grantN f k).grantB f (C.waits.getD k 0) then C.servN f k++[C.waits.getD k 0] else C.servN f k:=rfl;rw[e] at h;by_cases hb:(C.grantN f k).grantB f (C.waits.getD k 0)=true
  ·rw[if_pos hb] at h; simp at h
  ·rw[if_neg hb] at h
   obtain⟨a,b⟩:=serv_nil C f k h;refine⟨?_,fun j hj=>?_⟩
   ·show (C.grantN f k).grant f (C.waits.getD k 0)=C
    unfold RBx.grant;rw[if_neg hb,a]
   ·by_cases hjk:j=k
    ·subst hjk
     rw[a] at hb
     simpa using hb
    ·exact b j (by omega)
theorem some_grant {L:Lay} {C:RBx} {W V:Wd} {f:Fr} (h:Cyc L C W f V) (hN:∀r,(C.line r).ph=46) (hD:∀t,t < L.tns.length->(L.tn t).jny.length<=W.done.getD t 0->W.gone.getD t false=true) (hQ:L.tns.length<=L.Q)
  (hz:f.cmds.size / 2=L.tns.length) (hc:∀j,j < L.tns.length->pk f.cmds (2*j)=114/\pk f.cmds (2*j+1)=49+j) {u:Nat} (hu:u < L.tns.length) (hus:C.sta.getD u 0 < (L.tn u).jny.length):∃t,t < L.tns.length/\(C.s4 f).sta.getD t 0≠C.sta.getD t 0:=by
 have eL:=h.P.eL;have S:=h.S;obtain⟨k1,k2,k3,k4,k5,k6⟩:=h.s3k;have hl2:∀r,(C.s2 f).line r=C.line r:=fun r=>by
  rcases h.s2 r with ⟨-,a⟩ | ⟨a,-⟩
  ·exact a
  ·exact absurd (hN r) a
 have hl3:∀r,((C.s3 f).line r).ph=46:=fun r=>by rw[h.line3,hl2]; exact hN r
 have hst2:(C.s2 f).sta=C.sta:=by
  apply list_ext0
  ·rw[S.i2.st,S.l2,h.P.inv.st]
  ·intro t _; exact h.sta2 t
 have hst3:(C.s3 f).sta=C.sta:=k5.trans hst2;have hsl:C.sta.length=L.tns.length:=by rw[h.P.inv.st,eL]
 apply Classical.byContradiction;intro hno;have hall:∀t,t < L.tns.length->(C.s4 f).sta.getD t 0=C.sta.getD t 0:=fun t ht=>by
  apply Classical.byContradiction;intro hc;exact hno ⟨t,ht,hc⟩
 have hnil:(C.s3 f).servN f (C.s3 f).waits.length=[]:=by
  cases hs:(C.s3 f).servN f (C.s3 f).waits.length with
  | nil=>rfl
  | cons x l=>
   exfalso;have hm:x∈(C.s3 f).servN f (C.s3 f).waits.length:=by rw[hs]; exact List.mem_cons_self ..
   have hx:=(S.i3.wt x (S.sv x hm)).1;rw[k6] at hx;have h1:=z5t S.g x (C.s3 f).waits.length (Nat.le_refl _);have h2:((C.s3 f).grantN f (C.s3 f).waits.length).sta.getD x 0=C.sta.getD x 0:=hall x hx;rw[h2,hst3] at h1;have:=List.count_pos_iff.2 hm;omega
 obtain⟨-,hgb⟩:=serv_nil (C.s3 f) f _ hnil;have hnd:L.allDone C.sta=false:=by
  cases hc:L.allDone C.sta with
  | false=>rfl
  | true=>
   unfold Lay.allDone at hc;rw[List.all_eq_true] at hc;have:=hc u (List.mem_range.2 (by rw[hsl]; exact hu));unfold Lay.doneB at this;have:=of_decide_eq_true this;omega
 obtain⟨t,m,hm,ht,hdn,hrn,hsf⟩:=sound_first h.P.snd hnd;have ht':t < L.tns.length:=by rw[<-hsl]; exact ht
 have hts:C.sta.getD t 0 < (L.tn t).jny.length:=by
  unfold Lay.doneB at hdn
  simpa using hdn
 have hl2L:(C.s2 f).L=L:=S.l2.trans eL;have hwait:t∈(C.s3 f).waits:=by
  have hdo:C.s3 f=(C.s2 f).doN f L.tns.length:=by unfold RBx.s3; rw[hz]
  rw[hdo];exact asks_all L.tns.length (by rw[hl2L]) (by rw[hl2L]; exact hQ) hc (fun k hk=>S.d k (by omega)) L.tns.length (Nat.le_refl _) t ht' (by rw[hl2L,hst2]; exact hts)
 obtain⟨j,hj,ej⟩:=List.mem_iff_getElem.1 hwait;have hf:=hgb j hj;rw[z05 hj,ej] at hf;have hlock:∀s,(C.s3 f).lockedBy s=none:=fun s=>idle_lock (fun r _=>hl3 r) s;have hheld:∀s,(C.s3 f).heldB s=false:=fun s=>by
  unfold RBx.heldB;rw[hlock s,Option.isSome_none,Bool.false_or,List.any_eq_false];intro r _;unfold RBx.flankB;rw[hl3 r];simp
 have hnone:∀v,∀r,(C.line r).ph≠46->(C.line r).train≠v:=fun v r hr=>absurd (hN r) hr
 have hstand:∀v s,v < L.tns.length->W.onB L v s=true->C.sta.getD v 0=W.done.getD v 0/\W.stand L v=s/\L.holds C.sta v=some s:=fun v s hv ho=>by
  obtain⟨a1,a2⟩:=h.P.tr.no v hv (hnone v);obtain⟨b1,b2⟩:=z4a.1 ho;rcases b2 with ⟨-,e⟩ | ⟨e,-⟩
  ·refine⟨a1,e,?_⟩
   unfold Lay.holds;have hnd:¬L.doneB C.sta v=true:=fun hd=>by
    unfold Lay.doneB at hd;have:=hD v hv (by have:=of_decide_eq_true hd; omega);rw[b1] at this;cases this
   rw[if_neg hnd,a1,<-e];unfold Wd.stand;split <;> rfl
  ·omega
 have hfree:(C.s3 f).free f ((C.s3 f).nxt t)=true:=by
  have hnx:(C.s3 f).nxt t=(L.tn t).jny.getD (C.sta.getD t 0) 0:=by unfold RBx.nxt; rw[k6,hst3]
  have hnl:(C.s3 f).nxt t < L.rts.length:=by rw[hnx]; exact h.T.jr t ht' _ hts
  have hpath:∀s,s < L.sw.length->s∈secs (L.rt ((C.s3 f).nxt t)).path->f.occ.getD s false=false:=fun s hs hm=>by
   cases ho:f.occ.getD s false with
   | false=>rfl
   | true=>
    exfalso;rw[h.oc s hs] at ho;obtain⟨v,hv,hov⟩:=z28.1 ho;obtain⟨c1,c2,c3⟩:=hstand v s hv hov;by_cases e:v=t
    ·subst e
     rw[z3k h.T hv (by omega)] at c2;have:W.rt L v=(C.s3 f).nxt v:=by unfold Wd.rt; rw[hnx,c1]
     rw[this] at c2;exact h.T.ft _ hnl (by rw[c2]; exact hm)
    ·unfold Lay.runsB at hrn
     rw[List.all_eq_true] at hrn;have hmem:(C.s3 f).nxt t∈(L.tn t).jny.drop (C.sta.getD t 0):=by
      rw[hnx,z05 hts,List.mem_iff_getElem];exact⟨0,by rw[List.length_drop]; omega,by rw[List.getElem_drop]; simp⟩
     have h2:=hrn _ hmem;rw[List.all_eq_true] at h2;have h3:=h2 v (List.mem_range.2 (by rw[hsl]; exact hv));rw[c3] at h3;simp only[Bool.or_eq_true,beq_iff_eq,Bool.not_eq_true'] at h3;rcases h3 with h3 | h3
     ·exact e h3
     ·have h4:(secs (L.rt ((C.s3 f).nxt t)).path).contains s=false:=h3
      have:(secs (L.rt ((C.s3 f).nxt t)).path).contains s=true:=by simpa using hm
      rw[this] at h4;cases h4
  unfold RBx.free;rw[List.all_eq_true];intro s hs;rw[List.mem_range,k6] at hs;unfold RBx.freeB;have htk:(C.s3 f).takenB f s=f.occ.getD s false:=by
   unfold RBx.takenB;rw[hlock s,Option.isSome_none,Bool.false_or]
  rw[k6,htk,hheld s];have hfl:(C.s3 f).failed.getD s false=false:=by rw[k2]; exact h.nf1 s
  rw[hfl];have c1:(has (L.rt ((C.s3 f).nxt t)).path s&&f.occ.getD s false)=false:=by
   cases hp:has (L.rt ((C.s3 f).nxt t)).path s with
   | false=>rfl
   | true=>
    rw[hpath s hs (by unfold has at hp; simpa using hp)];rfl
  have c2:(L.wantsF ((C.s3 f).nxt t) s != 0&&f.occ.getD s false)=false:=by
   by_cases hw:L.wantsF ((C.s3 f).nxt t) s=0
   ·rw[hw]; rfl
   ·have ho:f.occ.getD s false=false:=by
     by_cases hp:s∈secs (L.rt ((C.s3 f).nxt t)).path
     ·exact hpath s hs hp
     ·have hfk:has (L.rt ((C.s3 f).nxt t)).flank s=true:=by
       unfold Lay.wantsF at hw;split at hw
       ·rename_i v e
        have:=z4f e;unfold has at this;exact absurd (by simpa using this) hp
       ·cases e:z1l (L.rt ((C.s3 f).nxt t)).flank s with
        | none=>rw[e] at hw; exact absurd rfl hw
        | some v=>exact z4f e
      cases ho:f.occ.getD s false with
      | false=>rfl
      | true=>
       exfalso;rw[h.oc s hs] at ho;obtain⟨v,hv,hov⟩:=z28.1 ho;obtain⟨d1,d2,-⟩:=hstand v s hv hov;unfold Wd.stand at d2;split at d2
       ·exact h.T.fs _ s v hnl hv hfk d2
       ·rename_i hd0
        exact h.T.fe _ s _ hnl (h.T.jr v hv _ (by have:=h.P.tr.dl v hv; omega)) hfk d2
    rw[ho,Bool.and_false]
  rw[c1,Bool.not_false,Bool.true_and,Bool.false_or,Bool.false_or];cases hw0:(L.wantsF ((C.s3 f).nxt t) s != 0) with
  | false=>rfl
  | true=>
   rw[hw0,Bool.true_and] at c2;rw[c2,Bool.and_false];rfl
 have hset:(C.s3 f).isSet t=false:=by
  unfold RBx.isSet;rw[List.any_eq_false];intro r _;unfold RBx.setB;rw[hl3 r];simp
 have hsm:L.sound ((C.s3 f).more t)=true:=by
  unfold RBx.more;rw[hst3];exact sound_more hm ht hdn hrn hsf
 unfold RBx.grantB at hf;rw[hset,hfree,k6,hsm] at hf;cases hf
end Go.Proofs.YtkbpocecbcaiiabGreatDoor
namespace Go.Proofs.YtkbpocecbcaiiabGreatDoor
open Go.RowKit
end Go.Proofs.YtkbpocecbcaiiabGreatDoor
namespace Go.Proofs.YtkbpocecbcaiiabGreatDoor
end Go.Proofs.YtkbpocecbcaiiabGreatDoor
namespace Go.Proofs.YtkbpocecbcaiiabGreatDoor
open Go.RowKit
theorem layK_of {C:RBx} (hi:Inv C):LayK C.L:=by
 refine⟨by have:=hi.lay.good.tns; omega,by have:=hi.lay.rl; omega,fun t ht=>?_,fun t ht q hq=>?_,fun r hr=>?_⟩
 ·have hm:C.L.tn t∈C.L.tns:=by unfold Lay.tn; rw[z05 ht]; exact List.getElem_mem ht
  have:=hi.lay.good.jl _ hm;omega
 ·have hm:C.L.tn t∈C.L.tns:=by unfold Lay.tn; rw[z05 ht]; exact List.getElem_mem ht
  exact hi.lay.good.jnys _ hm q hq
 ·have hro:=hi.rt hr
  rw[z0o];exact⟨List.length_pos_iff.2 hro.ne,by have:=hro.pl; omega⟩
theorem calmN_le (L:Lay):∀k,(∀t,t < k->(L.tn t).jny.length<=1000)->calmN L k<=32+32000*k
 | 0,_=>Nat.le_refl _
 | k+1,h=>by
  have h1:=calmN_le L k (fun t ht=>h t (by omega));have h2:=h k (by omega);rw[calmN_succ];omega
def KTh (n:Nat) (w0 w:World) (R:Nat->Prop) (gb gp g nt ns:Nat) (B:WB) (L:Lay) (Q:RBx->Wd->Prop):Prop:=∃C D W,KRun n w0 w D R gb gp L C/\WAt w g gp nt ns B W/\Off D g B/\Q C W
set_option maxRecDepth 100000 in
set_option maxHeartbeats 16000000 in
theorem Through_of (s:ByteArray) (ao:Option Addr) (len cap:Nat) (zs:List Int) (w:World) (hF:ChsIn w ao len zs) (P:RBx->Wd->Prop) (M:Nat->RBx->Wd->Prop) (hTh:(errOf s.data.toList).1=0->(layOf s.data.toList).tns.length<=(layOf s.data.toList).Q->Thru (layOf s.data.toList) P M) :
  Calls Tryz.prog 8 #[.string s,.slice ao len cap] w fun e w'=>e=.returned (.bool true)/\Below w.heap.size w w':=by
 have H1:=zh (kopened_any s w);obtain⟨hlm,hF,hz⟩:=hF;unfold maxLen at hlm;have HFR:=zh hF;have HZZ:=zh hz;have HTH:=zh hTh;clear hF hz hTh;go_enter Tryz.func8,Tryz.ntmps8
 go_wp2_with fail
 refine(uh H1).mono ?_;rintro e w1 hOp;rcases hOp with ⟨-,rfl,hb1⟩ | ⟨h0,gb,gp,D,R,rfl,hK⟩
 ·have HB1:=zh hb1
  clear hb1;go_wp2
  go_ret
  exact⟨rfl,uh HB1⟩
 ·have HK0:=zh hK
  have HPOS:=zh (lay_pos s h0);have HBG:=zh (fun (wz:World)=>wbegin_any s wz h0);have HTT:=zh (uh HTH h0);have hi:=hK.box.inv;have eL:=hK.eL;have hQ:=hi.lay.Q;have ht5:=hi.lay.good.tns;have hs16:=hi.lay.sw;have HLK:=zh (show LayK (layOf s.data.toList) by have:=layK_of hi; rw[eL] at this; exact this);have HRO:=zh (show ∀r,r < (layOf s.data.toList).rts.length->RtOK (layOf s.data.toList) ((layOf s.data.toList).rt r) by rw[<-eL]; exact fun r hr=>hi.rt hr);have HTL:=zh (show 1<=(layOf s.data.toList).T by rw[<-eL]; exact hi.lay.T.1);rw[eL] at hQ ht5 hs16;obtain⟨L,hLe⟩:∃L,L=layOf s.data.toList:=⟨_,rfl⟩
  rw[<-hLe] at hK HK0 HPOS HBG HTT HLK HRO HTL hQ ht5 hs16;obtain⟨vh,vp,vf,va,vk,vw,vs,vj,ek,-,-,-,-,-,-,x7,x8⟩:=hK.plan.at;obtain⟨⟨-,-,c2,-,-,-,-,-,-,c9,c10⟩,hgg⟩:=z0k ek;obtain⟨as_,cs,hvs,-⟩:=SlAt.open x7;subst hvs;rw[List.length_map] at c9;obtain⟨nt,hnt⟩:∃n,n=L.tns.length:=⟨_,rfl⟩
  obtain⟨ns,hns⟩:∃n,n=L.sw.length:=⟨_,rfl⟩
  have HNT:=zh (And.intro hnt hns);rw[<-hnt] at c9 ht5;rw[<-hns] at hs16;obtain⟨q,hq⟩:∃q,q=L.Q:=⟨_,rfl⟩
  have HQ:=zh hq;rw[<-hq] at c2 hQ;clear hK H1 h0 ek x7 x8 hi eL hLe hnt hns hq HTH;by_cases hqn:q < nt
  ·have d1:(q:Int) < nt:=by omega
   have d2:decide (q < nt)=true:=by simpa using hqn
   have HBE:=zh (uh HK0).be;clear hqn;go_wp2
   go_quiet (fail)
   go_wp2
   go_ret
   exact⟨rfl,below_drewN (uh HBE) _⟩
  ·have d1:¬(q:Int) < nt:=by omega
   have d2:decide (q < nt)=false:=by simpa using hqn
   have HTY:=zh (uh HTT (by rw[<-(uh HNT).1,<-uh HQ]; omega));clear hqn HTT;go_wp2
   go_quiet (fail)
   go_wp2_with fail
   refine(uh HBG _).mono ?_;rintro e w2 ⟨g,rfl,⟨V,hBM⟩,⟨R2,hP2,hR2⟩,hb2⟩;have hbw:Below w1.heap.size w1 w2:=(below_drewN (Below.refl _ _) nq).trans hb2;have hK2:=(uh HK0).below hbw (Nat.le_refl _);have hw1:(w1.drewN nq).heap.size=w1.heap.size:=rfl;rw[hw1] at hBM hP2 hR2;obtain⟨B,hWA,hgB⟩:=hBM.at (by have:=(uh HPOS).2; have:=(uh HNT).1; omega) (by have:=(uh HPOS).1; have:=(uh HNT).2; omega) L rfl rfl;rw[<-(uh HNT).1,<-(uh HNT).2] at hWA;have hng:w1.heap.size<=g:=by
    rcases Nat.lt_or_ge g w1.heap.size with hh | hh
    ·exfalso
     obtain⟨vh',vp',vf',va',vk',vw',vs',vj',e',-⟩:=hP2.2 { w2 with heap:=#[] } (fun k hk=>by have:=hR2 k hk; omega);simp at e'
    ·exact hh
   obtain⟨vh,vp,vf,va,vk,vw,vs,vj,ek,-,-,-,-,-,-,x7,x8⟩:=hK2.plan.at;obtain⟨⟨-,-,-,-,-,-,-,-,-,c9,c10⟩,hgg⟩:=z0k ek;obtain⟨as_,cs,hvs,-⟩:=SlAt.open x7;subst hvs;rw[List.length_map,<-(uh HNT).1] at c9;have HX8:=zh x8;have hKn:KRun w.heap.size w w2 D R2 gb w1.heap.size L (RBx.init L):=⟨hK2.box,hP2,fun k hk hd=>by
    have h1:=(hR2 k hk).1;have h2:=(uh HK0).box.lt k hd;omega,hK2.dn,hK2.eL,hK2.sg,hK2.wt,hK2.be⟩
   have hnw1:w.heap.size<=w1.heap.size:=(uh HK0).be.size;have HOB:=zh (show ∀b,b∈g :: B.bs->¬R2 b/\w.heap.size<=b from fun b hb=>⟨fun hr=>by have:=(hR2 b hr).2; have:=hgB b hb; omega,by have:=hgB b hb; omega⟩);have HT0:=zh (show KTh w.heap.size w w2 R2 gb w1.heap.size g nt ns B L P from ⟨_,D,_,hKn,hWA,fun b hb hd=>by
    have h1:=hgB b hb;have h2:=(uh HK0).box.lt b hd;omega,(uh HTY).p0⟩)
   obtain⟨gq,hgq⟩:∃g,g=w1.heap.size:=⟨_,rfl⟩
   rw[<-hgq] at HT0;have HJL:=zh (fun t (ht:t < nt)=>(uh HLK).jl t (by rw[<-(uh HNT).1]; exact ht));clear hbw hK2 hw1 hBM hP2 hR2 hb2 hWA hgB hng ek x7 x8 hKn hnw1 hgq HPOS HBG HK0;go_wp2
   go_loopw [9,10] (fun v i wr=>∃m:Nat,v=.int .i64 (calmN L m:Nat)/\i=.int .i64 m/\m<=nt/\wr=w2) (fun _ i _=>nt - (intOf i).toNat)
   case atStart=>exact⟨0,rfl,rfl,Nat.zero_le _,rfl⟩
   case round=>
    obtain⟨m,rfl,rfl,hm,hwr⟩:=hrel;obtain rfl:wr=w2:=hwr;have hcl:calmN L m<=32+32000*m:=calmN_le L m (fun t ht=>uh HJL t (by omega));by_cases hmt:m < nt
    ·have hmL:m < L.tns.length:=by rw[<-(uh HNT).1]; exact hmt
     obtain⟨gj,oj,cj,ar,cr,ev,hgj,xr,-⟩:=z23 (uh HX8) m (by simpa using hmL);subst ev;rw[List.length_map,<-(uh HNT).1] at c10;rw[z4h hmL] at xr;have HNX:=zh (calmN_succ L m);have hjl:=uh HJL m hmt;obtain⟨jl,hjle⟩:∃n,n=(L.tn m).jny.length:=⟨_,rfl⟩
     rw[<-hjle] at xr HNX hjl;obtain⟨n0,hn0⟩:∃n,n=calmN L m:=⟨_,rfl⟩
     rw[<-hn0] at HNX hcl ⊢;have l1:(m:Int) < nt:=by omega
     have l2:(0:Int)<=m:=by omega
     have l3:(m:Int)<=100:=by omega
     have l4:(n0:Int)<=10000000:=by omega
     have l5:(0:Int)<=n0:=by omega
     have l6:(jl:Int)<=1000:=by omega
     have l7:(0:Int)<=jl:=by omega
     clear hjle hn0 HX8;go_wp2
     refine⟨⟨m+1,?_,by go_num,by omega,(by first | trivial | rfl)⟩,by simp[intOf]; omega⟩;rw[uh HNX];go_num
    ·have l1:¬(m:Int) < nt:=by omega
     have hme:m=L.tns.length:=by rw[<-(uh HNT).1]; omega
     have HME:=zh (show (calmN L m)=calmN L L.tns.length by rw[hme]);obtain⟨N,hN⟩:∃n,n=calmN L m:=⟨_,rfl⟩
     rw[<-hN] at HME hcl ⊢;have hN1:N<=10000000:=by omega
     clear hme hN hcl HX8;go_wp2
     clear c9 c10 hgg l1 hmt hm;go_loopw [7,11] (fun _ i wr=>∃k:Nat,i=.int .i64 k/\k<=len/\KTh w.heap.size w wr R2 gb gq g nt ns B L P) (fun _ i _=>len - (intOf i).toNat)
     case atStart=>exact⟨0,rfl,Nat.zero_le _,uh HT0⟩
     case round=>
      obtain⟨k,rfl,hk,hT⟩:=hrel;clear HT0;by_cases hlt:k < len
      ·obtain⟨C,D',W,hKr,hWr,hOf,hP⟩:=hT
       rcases uh HFR with h | ⟨g9,off,rfl,hc⟩
       ·omega
       have hcm0:=hc k hlt;have hbk:g9 < w.heap.size:=by
        rcases Nat.lt_or_ge g9 w.heap.size with h | h
        ·exact h
        ·unfold World.cell? at hcm0
         simp[Array.getElem?_eq_none h] at hcm0
       have hcz:=uh HZZ k;generalize zs.getD k 0=c at *;have c1:wr.cell? ⟨g9,off+k,none⟩=some (.int .i64 c):=(hKr.be.cell (p:=⟨g9,off+k,none⟩) hbk).trans hcm0;have g1:g9 < wr.heap.size:=by have:=hKr.be.size; omega
       obtain⟨slow,hsl,hsT⟩:=slow_lt (c / 1024) L.T (uh HTL);have hpr:=(uh HTY).pr C W (askC c) (goC c) slow hP hsT;have HRN:=zh (wround_some hKr (Nat.le_refl _) hWr (uh HLK) (uh HRO) (uh HNT).1 (uh HNT).2 (fun b hb=>⟨hOf b hb,uh HOB b hb⟩) c hcz slow hsl hpr.1);have HPN:=zh hpr.2;have l1:(k:Int) < len:=by omega
       have l2:(0:Int)<=k:=by omega
       clear hKr hWr hOf hP hpr hsl hsT hc hcm0;go_wp2_with fail
       refine(uh HRN).mono ?_;rintro e w5 ⟨rfl,D5,hK5,hW5,hO5⟩;have HF5:=zh (show KTh w.heap.size w w5 R2 gb gq g nt ns B L P from ⟨_,D5,_,hK5,hW5,hO5,uh HPN⟩);clear hK5 hW5 hO5 HRN HPN c1 g1;go_wp2
       exact⟨⟨k+1,by go_num,by omega,uh HF5⟩,by simp[intOf]; omega⟩
      ·have l1:¬(k:Int) < len:=by omega
       have HT1:=zh (show KTh w.heap.size w wr R2 gb gq g nt ns B L (M N) from by
        obtain⟨C,D',W,hKr,hWr,hOf,hP⟩:=hT;exact⟨C,D',W,hKr,hWr,hOf,by rw[uh HME]; exact(uh HTY).m0 C W hP⟩)
       clear hT HME;go_wp2
       clear l1 hlt hk;go_loopw [7,12] (fun _ i wr=>∃k:Nat,i=.int .i64 k/\k<=N/\KTh w.heap.size w wr R2 gb gq g nt ns B L (M (N - k))) (fun _ i _=>N - (intOf i).toNat)
       case atStart=>exact⟨0,rfl,Nat.zero_le _,uh HT1⟩
       case round=>
        obtain⟨k,rfl,hk,hT⟩:=hrel;clear HT1;obtain⟨C,D',W,hKr,hWr,hOf,hP⟩:=hT;by_cases hlt:k < N
        ·have l1:(k:Int) < N:=by omega
         have l2:(0:Int)<=k:=by omega
         have l3:(k:Int)<=10000000:=by omega
         rw[show N - k=(N - (k+1))+1 by omega] at hP;have hmr:=(uh HTY).mr _ C W hP;have HRN:=zh (wround_calm hKr (Nat.le_refl _) hWr (uh HLK) (uh HRO) (uh HNT).1 (uh HNT).2 (fun b hb=>⟨hOf b hb,uh HOB b hb⟩) 0 (by omega) hmr.1);have HPN:=zh hmr.2;clear hKr hWr hOf hP hmr;go_wp2_with fail
         refine(uh HRN).mono ?_;rintro e w5 ⟨rfl,D5,hK5,hW5,hO5⟩;have HF5:=zh (show KTh w.heap.size w w5 R2 gb gq g nt ns B L (M (N - (k+1))) from ⟨_,D5,_,hK5,hW5,hO5,uh HPN⟩);clear hK5 hW5 hO5 HRN HPN;go_wp2
         exact⟨⟨k+1,by go_num,by omega,uh HF5⟩,by simp[intOf]; omega⟩
        ·have l1:¬(k:Int) < N:=by omega
         rw[show N - k=0 by omega] at hP;obtain⟨e1,e2,e3,e4,e5⟩:=(uh HTY).mE C W hP;have hnt':=(uh HNT).1;have HOV:=zh (wover_yes hKr e1 hWr hnt' e2 (fun t ht=>e3 t (by omega)) (fun t ht=>e4 t (by omega)) e5);have HBE:=zh hKr.be;have HNW:=zh (hKr.nw (Nat.le_refl _));clear hKr hWr hOf hP e1 e2 e3 e4 e5 hnt';go_wp2_with fail
         refine(uh HOV).mono ?_;rintro e w5 ⟨rfl,hb5⟩;have HF5:=zh ((uh HBE).trans (hb5.mono (uh HNW)));clear hb5 HOV;go_wp2
         go_ret
         exact⟨rfl,uh HF5⟩
def mu (L:Lay) (C:RBx) (W:Wd) (k:Nat):Nat:=((List.range k).map (nu L C W)).sum
theorem mu_succ (L:Lay) (C:RBx) (W:Wd) (k:Nat):mu L C W (k+1)=mu L C W k+nu L C W k:=by
 unfold mu;rw[List.range_succ,List.map_append,List.sum_append];simp
theorem mu_le {L:Lay} {C D:RBx} {W V:Wd}:∀k,(∀t,t < k->nu L D V t<=nu L C W t)->mu L D V k<=mu L C W k
 | 0,_=>Nat.le_refl _
 | k+1,h=>by
  have:=mu_le k (fun t ht=>h t (by omega));have:=h k (by omega);rw[mu_succ,mu_succ]; omega
theorem mu_lt {L:Lay} {C D:RBx} {W V:Wd}:∀k,(∀t,t < k->nu L D V t<=nu L C W t)->(∃t,t < k/\nu L D V t < nu L C W t)->mu L D V k < mu L C W k
 | 0,_,⟨t,ht,_⟩=>absurd ht (Nat.not_lt_zero _)
 | k+1,h,⟨t,ht,hs⟩=>by
  have h1:=h k (by omega);rw[mu_succ,mu_succ];by_cases e:t=k
  ·subst e
   have:=mu_le t (fun u hu=>h u (by omega));omega
  ·have:=mu_lt k (fun u hu=>h u (by omega)) ⟨t,by omega,hs⟩
   omega
theorem mu_zero {L:Lay} {C:RBx} {W:Wd}:∀k,mu L C W k=0->∀t,t < k->nu L C W t=0
 | 0,_,t,ht=>absurd ht (Nat.not_lt_zero _)
 | k+1,h,t,ht=>by
  rw[mu_succ] at h;by_cases e:t=k
  ·subst e; omega
  ·exact mu_zero k (by omega) t (by omega)
theorem mu_none {L:Lay} {C:RBx} {W:Wd}:∀k,(∀t,t < k->nu L C W t=0)->mu L C W k=0
 | 0,_=>rfl
 | k+1,h=>by rw[mu_succ,mu_none k (fun t ht=>h t (by omega)),h k (by omega)]
theorem lrem_le {L:Lay} (hT:LayT L) {C:RBx} {W:Wd} (P:Play L C W) {t r:Nat} (hp:(C.line r).ph≠46) (ht:(C.line r).train=t):0 < lrem L W t r (C.line r)/\lrem L W t r (C.line r)<=18:=by
 have eL:=P.eL;have hr:r < L.rts.length:=by rw[<-eL,<-P.inv.ll]; exact z14 hp
 have h1:=plen_pos hT hr;have h2:=plen_le hT hr;have hln:=P.tr.ln r hp;rw[ht] at hln;have hpl:plen L r=(L.rt r).path.length:=by unfold plen; rw[z0o]
 have hps:=(P.inv.li r (by rw[eL]; exact hr)).ps;rw[eL] at hps;unfold lrem;by_cases hh:W.head.getD t 0 < 0
 ·rw[if_pos hh]
  by_cases h6:(C.line r).ph=116
  ·have:=(hps h6).2
   rw[if_pos h6]; omega
  ·rw[if_neg h6]; omega
 ·rw[if_neg hh]
  rcases hln with a | ⟨-,-,-,a,b⟩ | ⟨-,a⟩ | a
  ·exact absurd a.2.2 hh
  ·omega
  ·have:=a.tt
   omega
  ·exact absurd a.h hh
theorem nu_le {L:Lay} (hT:LayT L) {C:RBx} {W:Wd} (P:Play L C W) (t:Nat):nu L C W t<=20*(L.tn t).jny.length+1:=by
 have hb:(if W.gone.getD t false=true then 0 else 1)<=1:=by split <;> omega
 unfold nu;by_cases hset:∃r,(C.line r).ph≠46/\(C.line r).train=t
 ·obtain⟨r,hr,e⟩:=hset
  rw[rem_set W P.inv hr e];have h1:=(lrem_le hT P hr e).2;have h2:=(P.inv.tr r (by rw[<-P.inv.ll]; exact z14 hr) hr).2;rw[e] at h2;have h3:=P.inv.sj t;rw[P.eL] at h3;omega
 ·rw[rem_no W (fun r hr e=>hset ⟨r,hr,e⟩)]
  omega
theorem mu_calm {L:Lay} (hT:LayT L) {C:RBx} {W:Wd} (P:Play L C W):∀k,mu L C W k+32<=calmN L k+k
 | 0=>by unfold mu calmN; simp
 | k+1=>by
  have:=mu_calm hT P k;have:=nu_le hT P k;rw[mu_succ,calmN_succ];omega
theorem play_hurry {L:Lay} {C:RBx} {W:Wd} (P:Play L C W):Play L C W.hurry:=by
 have hs:SameT W W.hurry:=⟨rfl,rfl,rfl,rfl⟩
 have h0:∀x,W.hurry.left.getD x 0=0:=fun x=>z0z _ _ _ _ rfl;refine⟨P.sim,P.inv,P.eL,P.wo,P.kj,P.wt,P.snd,P.tr.sameT hs,⟨P.sl.l,P.sl.a,?_⟩,⟨P.sv.lie,P.sv.aim⟩,P.nf,fun x hx=>?_,lies_sw P.li rfl rfl,fun r hp hg=>?_,⟨P.wl.d,P.wl.h,P.wl.t,P.wl.g⟩,fun x=>by rw[h0]; omega⟩
 ·show (List.replicate W.left.length 0).length=_
  rw[List.length_replicate]; exact P.sl.f
 ·rcases P.sw x hx with a | ⟨a,b,c⟩
  ·exact .inl a
  ·exact .inr ⟨a,by rw[h0]; omega,c⟩
 ·rw[hs.taken]
  exact P.be r ⟨hp.ph,hp.es,hp.d,hp.er,hp.h,hp.m⟩ hg
theorem thru {L:Lay} (hT:LayT L) (hO:LayOK L) (hQ:L.tns.length<=L.Q):Thru L (Play L) (fun m C W=>Play L C W/\mu L C W L.tns.length<=m):=by
 refine⟨play_init hT hO,fun C W ask go slow P hsl=>?_,fun C W P=>⟨P,?_⟩,fun m C W hM=>?_,fun C W hM=>?_⟩
 ·have R:=round_ok hT P ask go hsl
  exact⟨R.ok,R.pl⟩
 ·have:=mu_calm hT P L.tns.length
  have:=hT.tn;omega
 ·obtain⟨P,hm⟩:=hM
  have PH:=play_hurry P;have h0:∀x,W.hurry.left.getD x 0=0:=fun x=>z0z _ _ _ _ rfl;have R:=round_ok hT PH (fun _=>true) (fun _=>true) (slow:=0) (by have:=hT.T1; omega);refine⟨R.ok,R.pl,?_⟩;have key:=fun t (ht:t < L.tns.length)=>calm_step hT PH h0 R R.ec rfl ht;have hle:=mu_le L.tns.length (fun t ht=>(key t ht).1);have hmu:mu L C W.hurry L.tns.length=mu L C W L.tns.length:=rfl;by_cases hz:mu L C W L.tns.length=0
  ·omega
  ·have hlt:=mu_lt L.tns.length (fun t ht=>(key t ht).1) (by
    by_cases hset:∃r,(C.line r).ph≠46
    ·obtain⟨r,hr⟩:=hset
     have ht:=(P.inv.tr r (by rw[<-P.inv.ll]; exact z14 hr) hr).1;rw[P.eL] at ht;exact⟨_,ht,(key _ ht).2 (.inl ⟨r,hr,rfl⟩)⟩
    ·have hN:∀r,(C.line r).ph=46:=fun r=>by
      apply Classical.byContradiction;intro hc;exact hset ⟨r,hc⟩
     by_cases hd:∃t,t < L.tns.length/\(L.tn t).jny.length<=W.done.getD t 0/\W.gone.getD t false=false
     ·obtain⟨t,ht,d1,d2⟩:=hd
      exact⟨t,ht,(key t ht).2 (.inr (.inr ⟨d1,d2⟩))⟩
     ·have hD:∀t,t < L.tns.length->(L.tn t).jny.length<=W.done.getD t 0->W.gone.getD t false=true:=fun t ht h1=>by
       cases hg:W.gone.getD t false with
       | true=>rfl
       | false=>exact absurd ⟨t,ht,h1,hg⟩ hd
      have hu:∃u,u < L.tns.length/\C.sta.getD u 0 < (L.tn u).jny.length:=by
       apply Classical.byContradiction;intro hc;apply hz;refine mu_none _ (fun t ht=>?_);have hst:¬C.sta.getD t 0 < (L.tn t).jny.length:=fun h=>hc ⟨t,ht,h⟩;have hno:∀r,(C.line r).ph≠46->(C.line r).train≠t:=fun r hr=>absurd (hN r) hr;have h1:=(P.tr.no t ht hno).1;unfold nu;rw[rem_no W hno,hD t ht (by omega),if_pos rfl];omega
      obtain⟨u,hu1,hu2⟩:=hu;have FA:=(frW_fact hT PH.sl PH.sv (fun _=>true)).2 (fun _=>rfl);obtain⟨t,ht,hne⟩:=some_grant R.cy hN hD hQ FA.1 (fun j hj=>⟨R.cy.cm j (by rw[FA.1]; exact hj),FA.2 j hj⟩) hu1 hu2;refine⟨t,ht,(key t ht).2 (.inr (.inl ?_))⟩;rw[R.ec];exact hne)
   omega
 ·obtain⟨P,hm⟩:=hM
  have hz:=mu_zero L.tns.length (by omega:mu L C W L.tns.length=0);have hno:∀r,(C.line r).ph=46:=fun r=>by
   apply Classical.byContradiction;intro hr;have ht:=(P.inv.tr r (by rw[<-P.inv.ll]; exact z14 hr) hr).1;rw[P.eL] at ht;have h1:=hz _ ht;have h2:=(lrem_le hT P hr rfl).1;unfold nu at h1;rw[rem_set W P.inv hr rfl] at h1;omega
  have hst:∀t,t < L.tns.length->C.sta.getD t 0=(L.tn t).jny.length:=fun t ht=>by
   have h1:=hz t ht;unfold nu at h1;have h3:=P.inv.sj t;rw[P.eL] at h3;omega
  refine⟨P.kj,?_,fun t ht=>?_,hst,fun r _=>hno r⟩
  ·cases hw:C.waits with
   | nil=>rfl
   | cons x l=>
    exfalso;have h1:=P.inv.wt x (by rw[hw]; exact List.mem_cons_self ..);rw[P.eL] at h1;have:=hst x h1.1;omega
  ·have h1:=hz t ht
   unfold nu at h1;cases hg:W.gone.getD t false with
   | true=>rfl
   | false=>
    rw[hg] at h1;simp at h1
theorem Through_any (s:ByteArray) (ao:Option Addr) (len cap:Nat) (zs:List Int) (w:World) (hF:ChsIn w ao len zs) :
  Calls Tryz.prog 8 #[.string s,.slice ao len cap] w fun e w'=>e=.returned (.bool true)/\Below w.heap.size w w':=
 Through_of s ao len cap zs w hF (Play (layOf s.data.toList)) (fun m C W=>Play (layOf s.data.toList) C W/\mu (layOf s.data.toList) C W (layOf s.data.toList).tns.length<=m) (fun h hQ=>thru (layT_of s h) (z4e s h).1 hQ)
end Go.Proofs.YtkbpocecbcaiiabGreatDoor
