import Derived.Test.YtkbpocecbcaiiabGreatDoorO50
namespace Go.Proofs.YtkbpocecbcaiiabGreatDoor
open Go.RowKit
theorem lay_form (s:ByteArray) (h:(errOf s.data.toList).1=0):s.size<=256/\(layL s).1=true/\(layL s).2.1=s.size/\∀i,i < 3->49<=pk s i/\pk s i<=57:=by
 have hlen:s.data.toList.length=s.size:=by simp
 have hs:s.size<=256:=by
  unfold errOf at h;by_cases hh:256 < s.data.toList.length
  ·rw[if_pos hh] at h; simp at h
  ·omega
 rcases form_eq s hs with ⟨f1,f2,f3,f4⟩ | ⟨f1,f2,f3⟩
 case inr=>
  exfalso;unfold errOf at h;rw[if_neg (by omega),if_pos f2] at h;simp at h
 have hl1:(layL s).1=true/\(layL s).2.1=s.size:=by
  unfold z2h at f1;rw[if_neg (by omega)] at f1;by_cases hh:((layL s).1&&decide ((layL s).2.1=s.size))=false
  ·rw[if_pos hh] at f1; simp at f1
  ·simp at hh; exact hh
 refine⟨hs,hl1.1,hl1.2,?_⟩;have ht:=(times_ok s).2;have h2:=hl1.1;unfold layL at h2;by_cases h1:z2z s 0≠3
 ·rw[if_pos h1] at h2; cases h2
 ·exact(ht (by omega)).2.2
theorem kread_lay (s:ByteArray) (w:World) (h:(errOf s.data.toList).1=0) :
  Calls Tryz.prog 31 #[.string s] w fun e w'=>e=.returned (.pointer (some ⟨w.heap.size,0,none⟩))/\KPlIn (fun k=>w.heap.size<=k/\k < w'.heap.size) w' w.heap.size (layOf s.data.toList)/\Below w.heap.size w w':=by
 obtain⟨h1,h2,h3,h4⟩:=lay_form s h;obtain⟨hL,he⟩:=z4e s h;have hx:∀r,r∈(layL s).2.2.rts->∀x,x∈r.path\/x∈r.flank->x.1 < (layL s).2.2.sw.length:=by
  rw[he];intro r hr x hx;rcases hx with hx | hx
  ·exact((hL.rts r hr).ps x hx).1
  ·exact((hL.rts r hr).fs x hx).1
 obtain⟨k1,k2,k3,k4,k5,k6⟩:=kread_all s h2 h3 hx;refine(kread_any s w h1 k1 (fun i hi=>by have:=h4 i hi; omega) k3).mono ?_;rintro e w' ⟨e1,⟨V,e2⟩,e3⟩;refine⟨e1,?_,e3⟩;rw[k2,<-k4,<-k5,<-k6,he] at e2;exact e2.restIn
structure KRun (n:Nat) (w0 w:World) (D R:Nat->Prop) (gb gp:Nat) (L:Lay) (C:RBx):Prop where
 box:BoxC w D gb C
 plan:KPlIn R w gp L
 ap:∀k,R k->¬D k
 dn:∀k,D k->n<=k
 eL:C.L=L
 sg:L.Signs
 wt:WantOK C
 be:Below n w0 w
theorem KRun.nw {n:Nat} {w0 w:World} {D R:Nat->Prop} {gb gp:Nat} {L:Lay} {C:RBx} (h:KRun n w0 w D R gb gp L C) (hn:n<=w0.heap.size):n<=w.heap.size:=Nat.le_trans hn h.be.size
theorem KRun.below {n:Nat} {w0 w w':World} {D R:Nat->Prop} {gb gp:Nat} {L:Lay} {C:RBx} (h:KRun n w0 w D R gb gp L C) (hb:Below w.heap.size w w') (hn:n<=w0.heap.size):KRun n w0 w' D R gb gp L C:=
 ⟨h.box.below hb,h.plan.below hb,h.ap,h.dn,h.eL,h.sg,h.wt,h.be.trans (hb.mono (h.nw hn))⟩
theorem KRun.cyc {n:Nat} {w0 w:World} {D R:Nat->Prop} {gb gp:Nat} {L:Lay} {C:RBx} (h:KRun n w0 w D R gb gp L C) (hn:n<=w0.heap.size) (s:ByteArray) :
  Calls Tryz.prog 11 #[.pointer (some ⟨gb,0,none⟩),.string s] w fun e w'=>e=.returned (.string (C.ans s))/\KRun n w0 w' (grow D w w') R gb gp L (C.cyc s)/\Only D w w':=by
 refine(kcycle_any D gb C s w h.box).mono ?_;rintro e w' ⟨e1,e2,e3⟩;have hc:=cyc_ok (C:=C) (by rw[h.eL]; exact h.sg) h.wt s;refine⟨e1,⟨e2,h.plan.only e3 h.ap,?_,?_,hc.2.trans h.eL,h.sg,hc.1,h.be.trans (e3.belowK h.dn (h.nw hn))⟩,e3⟩
 ·intro k hk hg
  rcases hg with hg | hg
  ·exact h.ap k hk hg
  ·have:=h.plan.1 k hk; omega
 ·intro k hk
  rcases hk with hk | hk
  ·exact h.dn k hk
  ·have:=h.nw hn; omega
theorem KRun.ask {n:Nat} {w0 w:World} {D R:Nat->Prop} {gb gp:Nat} {L:Lay} {C:RBx} (h:KRun n w0 w D R gb gp L C) :
  Calls Tryz.prog 13 #[.pointer (some ⟨gp,0,none⟩),.pointer (some ⟨gb,0,none⟩)] w fun e w'=>AskP w w' e (lkS C) (phS C) (swS C) (atS C) (quS C):=by
 obtain⟨B,hP,hs,hi⟩:=h.box;have hp:=hs.psm hi;have sm:=hs.same hi;have hO:=hi.askOK;rw[h.eL] at hO;refine kask_of gp gb L _ _ _ _ _ w h.plan.at ?_ ?_ ?_ ?_ ?_ hO
 ·intro wz hz
  have:=pLocks_any gb B wz (hP.at.below hz) hp.sw hp.rts hp.fr;rw[sm.locks] at this;exact this
 ·intro wz hz
  have:=pPhases_any gb B wz (hP.at.below hz) (by have:=hp.rts; omega);rw[sm.phases] at this;exact this
 ·intro wz hz
  have:=pSwitches_any gb B wz (hP.at.below hz) hp.wa;rw[sm.switches] at this;exact this
 ·intro wz hz
  have:=pAt_any gb B wz (hP.at.below hz) hp.st hp.st9;rw[sm.state] at this;exact this
 ·intro wz hz
  have:=pQueue_any gb B wz (hP.at.below hz) hp.wl hp.w9;rw[sm.queue] at this;exact this
def HearQ (w w':World) (e:Ending) (C:RBx) (s:ByteArray):Prop:=
 (C.L.frameB s=true/\HearP w w' e (laS C s) (moS C s) (anS C s) (grS C s))\/(C.L.frameB s=false/\e=.returned (.tuple #[.pointer none,.bool true])/\Below w.heap.size w w')
theorem khear_any {n:Nat} {w0 w wq:World} {D R:Nat->Prop} {gb gp:Nat} {L:Lay} {C:RBx} (h:KRun n w0 wq D R gb gp L C) (hk:KPl w gp L) (s:ByteArray) (hsm:s.size<=maxLen) :
  Calls Tryz.prog 12 #[.pointer (some ⟨gp,0,none⟩),.string s,.string (C.ans s)] w fun e w'=>HearQ w w' e C s:=by
 obtain⟨B,hP,hs,hi⟩:=h.box;have hsw:=hi.lay.sw;rw[h.eL] at hsw;cases hf:C.L.frameB s with
 | true=>
  rw[ans_hear C s hf];have hO:=hearOK hs hi (by rw[h.eL]; exact h.sg) h.wt s hf;rw[h.eL] at hO;refine(khear_yes gp L s _ _ _ _ w hk (by rw[<-h.eL]; exact hf) hO).mono ?_;intro e w' hh;exact .inl ⟨hf,hh⟩
 | false=>
  rw[ans_none C s hf];refine(khear_no gp L s w hk (by omega) hsm (by rw[<-h.eL]; exact hf)).mono ?_;rintro e w' ⟨e1,e2⟩;exact .inr ⟨hf,e1,e2⟩
def OpenP (w w':World) (e:Ending) (s:ByteArray):Prop:=
 ((errOf s.data.toList).1≠0/\e=.returned (.tuple #[.pointer none,.pointer none,.bool true])/\Below w.heap.size w w') ∨
 ((errOf s.data.toList).1=0/\∃gb gp D R,e=.returned (.tuple #[.pointer (some ⟨gb,0,none⟩),.pointer (some ⟨gp,0,none⟩),.bool true])/\KRun w.heap.size w w' D R gb gp (layOf s.data.toList) (RBx.init (layOf s.data.toList)))
set_option maxHeartbeats 2000000 in
theorem kopened_any (s:ByteArray) (w:World) :
  Calls Tryz.prog 9 #[.string s] w fun e w'=>OpenP w w' e s:=by
 have H1:=zh (pnew_any s w);have H2:=zh (fun (wz:World)=>rCheck_any s wz form_ok);have H3:=zh (fun (wz:World)=>kawake_any wz);have H4:=zh (fun (wz:World) (h:(errOf s.data.toList).1=0)=>kread_lay s wz h);have HI:=zh (fun h=>init_inv (z4e s h).1);have HS:=zh (fun (h:(errOf s.data.toList).1=0)=>show (layOf s.data.toList).Signs by rw[<-(z4e s h).2]; exact layL_signs s);obtain⟨P,hP⟩:∃P:World->Ending->Prop,P=fun w' e=>OpenP w w' e s:=⟨_,rfl⟩
 have HP:=zh (show ∀w' e,OpenP w w' e s->P w' e from fun w' e h=>by rw[hP]; exact h);have hgoal:(fun e w'=>OpenP w w' e s)=fun e w'=>P w' e:=by rw[hP]
 rw[hgoal];clear hP hgoal;unfold OpenP at HP;generalize layOf s.data.toList=L at *;generalize (errOf s.data.toList).2=E2 at *;generalize (errOf s.data.toList).1=E at *;go_enter Tryz.func9,Tryz.ntmps9
 go_wp2_with fail
 refine(uh H1).mono ?_;rintro e w1 ⟨hcase,hb1⟩;have HB1:=zh hb1;clear hb1;rcases hcase with ⟨hx,rfl⟩ | ⟨h0,gb,rfl,hg,hPB⟩
 ·have hxb:((E:Int)==0)=false:=by simp; exact hx
  have hxn:((E:Int) != 0)=true:=by simp; exact hx
  have HX:=zh hx;go_wp2_with fail
  refine(uh H2 w1).mono ?_;rintro e w2 ⟨rfl,hb2⟩;have HB2:=zh ((uh HB1).trans (hb2.mono (uh HB1).size));clear hb2;go_wp2_with fail
  refine(uh H3 w2).mono ?_;rintro e w3 ⟨rfl,hb3⟩;have HB3:=zh ((uh HB2).trans (hb3.mono (uh HB2).size));clear hb3;go_wp2
  refine bodyPost_ret (v:=.tuple #[.pointer none,.pointer none,.bool true]) (by simp[results,Tryz.results9,go_sem]) rfl ?_;exact uh HP _ _ (.inl ⟨uh HX,rfl,uh HB3⟩)
 ·have HPB:=zh (show BoxC w1 (fun b=>w.heap.size<=b/\b < w1.heap.size) gb (RBx.init L) from ⟨_,hPB,init_sim,uh HI h0⟩)
  have HSG:=zh (uh HS h0);have H40:=zh (fun wz=>uh H4 wz h0);have H0:=zh h0;subst h0;clear hPB;go_wp2_with fail
  refine(uh H2 w1).mono ?_;rintro e w2 ⟨rfl,hb2⟩;have HB2:=zh ((uh HB1).trans (hb2.mono (uh HB1).size));have HQ2:=zh ((uh HPB).below hb2);have hz2:=hb2.size;clear hb2;go_wp2_with fail
  refine(uh H3 w2).mono ?_;rintro e w3 ⟨rfl,hb3⟩;have HB3:=zh ((uh HB2).trans (hb3.mono (uh HB2).size));have HQ3:=zh ((uh HQ2).below hb3);have hz3:=hb3.size;clear hb3;go_wp2_with fail
  refine(uh H40 w3).mono ?_;rintro e w4 ⟨rfl,hpl,hb4⟩;have HB4:=zh ((uh HB3).trans (hb4.mono (uh HB3).size));have HQ4:=zh ((uh HQ3).below hb4);have HPL:=zh hpl;clear hb4 hpl;go_wp2
  refine bodyPost_ret (v:=.tuple #[.pointer (some ⟨gb,0,none⟩),.pointer (some ⟨w3.heap.size,0,none⟩),.bool true]) (by simp[results,Tryz.results9,go_sem]) rfl ?_;refine uh HP _ _ (.inr ⟨trivial,gb,w3.heap.size,_,_,rfl,⟨uh HQ4,uh HPL,?_,fun k hk=>hk.1,rfl,uh HSG,WantOK.init L,uh HB4⟩⟩);intro k hk hd;have h1:=hk.1;have h2:=hd.2;omega
theorem signsW_len (l:List (Nat×Nat)):∀W,(z2a W l).length=W.length:=by
 induction l with
 | nil=>intro W; rfl
 | cons x l ih=>
  intro W;show (z2a (if x.2=0 then W else W.set x.1 x.2) l).length=_;rw[ih];split
  ·rfl
  ·rw[List.length_set]
theorem signsW_get (l:List (Nat×Nat)):∀W,(secs l).Nodup->(∀x,x∈l->x.1 < W.length)->∀s,(z2a W l).getD s 0=match z1l l s with
  | some v=>if v=0 then W.getD s 0 else v
  | none=>W.getD s 0:=by
 induction l with
 | nil=>intro W _ _ s; rfl
 | cons x l ih=>
  intro W hn hl s;have hn':x.1 ∉ secs l/\(secs l).Nodup:=by
   have:(x.1 :: secs l).Nodup:=hn;exact List.nodup_cons.1 this
  show (z2a (if x.2=0 then W else W.set x.1 x.2) l).getD s 0=_;have hl':∀y,y∈l->y.1 < (if x.2=0 then W else W.set x.1 x.2).length:=by
   intro y hy;have:=hl y (List.mem_cons_of_mem _ hy);split
   ·exact this
   ·rw[List.length_set]; exact this
  rw[ih _ hn'.2 hl' s];have hx:=hl x (List.mem_cons_self ..);by_cases e:x.1=s
  ·have h1:z1l l s=none:=by
    unfold z1l;have:l.find? (fun y=>y.1==s)=none:=by
     rw[List.find?_eq_none];intro y hy;have hne:y.1≠x.1:=fun e2=>hn'.1 (by rw[<-e2]; exact List.mem_map_of_mem hy);simp; omega
    rw[this]; rfl
   have h2:z1l (x :: l) s=some x.2:=by
    unfold z1l;rw[List.find?_cons_of_pos (by simp[e])]; rfl
   rw[h1,h2];simp only;by_cases h0:x.2=0
   ·rw[if_pos h0,if_pos h0]
   ·rw[if_neg h0,if_neg h0,<-e,z0d _ _ _ _ _ hx,if_pos rfl]
  ·have h2:z1l (x :: l) s=z1l l s:=by
    unfold z1l;rw[List.find?_cons_of_neg (by simp[e])]
   rw[h2];have h3:(if x.2=0 then W else W.set x.1 x.2).getD s 0=W.getD s 0:=by
    split
    ·rfl
    ·exact z0h _ _ _ _ _ (fun e2=>e e2.symm)
   rw[h3]
theorem z4s (n:Nat) (r:Rt):(z31 n r).length=n:=by
 unfold z31;rw[signsW_len,signsW_len,List.length_replicate]
theorem z4f {l:List (Nat×Nat)} {s v:Nat} (h:z1l l s=some v):has l s=true:=by
 obtain⟨x,h1,h2,-⟩:=z41 h;unfold has;rw[List.contains_iff_mem];rw[<-h2];exact List.mem_map_of_mem h1
theorem wantRow_get {L:Lay} {r:Nat} (h:RtOK L (L.rt r)) (s:Nat):(z31 L.sw.length (L.rt r)).getD s 0=L.wantsF r s:=by
 have hw1:∀x,x∈(L.rt r).path->x.1 < (List.replicate L.sw.length 0).length:=fun x hx=>by rw[List.length_replicate]; exact(h.ps x hx).1
 have hw2:∀x,x∈(L.rt r).flank->x.1 < (z2a (List.replicate L.sw.length 0) (L.rt r).path).length:=fun x hx=>by rw[signsW_len,List.length_replicate]; exact(h.fs x hx).1
 unfold z31;rw[signsW_get _ _ h.fn hw2,signsW_get _ _ h.pn hw1];have h0:(List.replicate L.sw.length 0).getD s 0=0:=z0z _ _ _ _ rfl;rw[h0];unfold Lay.wantsF;cases hp:z1l (L.rt r).path s with
 | some v=>
  cases hq:z1l (L.rt r).flank s with
  | some u=>
   obtain⟨x,h1,h2,-⟩:=z41 hq;have:=(h.fs x h1).2.2.1;rw[h2,z4f hp] at this;cases this
  | none=>
   simp only;split <;> omega
 | none=>
  cases hq:z1l (L.rt r).flank s with
  | some u=>
   show (if u=0 then 0 else u)=u;split <;> omega
  | none=>rfl
theorem right_L {C C':RBx} (h:C'.L=C.L) (f:Fr) (r:Nat):C'.right f r=C.right f r:=by
 unfold RBx.right RBx.rightB; rw[h]
theorem busy_L {C C':RBx} (h:C'.L=C.L) (f:Fr) (r:Nat):C'.busy f r=C.busy f r:=by
 unfold RBx.busy RBx.pth; rw[h]
theorem z57 {C:RBx} (k r:Nat) (x:RLn) (h:r≠k):(C.put k x).line r=C.line r:=z0h _ _ _ _ _ h
theorem z3g (C:RBx) (f:Fr) (k r:Nat) (h:r≠k):(C.step f k).line r=C.line r:=by
 have hp:=fun x=>z57 (C:=C) k r x h;unfold RBx.step RBx.passed RBx.overtaken
 repeat' split
 all_goals first
  | exact hp _
  | rfl
  | exact z0h _ _ _ _ _ h
theorem z4t (C:RBx) (f:Fr) (r:Nat):∀k,k<=r->(C.stepN f k).line r=C.line r
 | 0,_=>rfl
 | k+1,h=>(z3g (C.stepN f k) f k r (by omega)).trans (z4t C f r k (by omega))
theorem z4u (C:RBx) (f:Fr) (r:Nat):∀k,r < k->(C.stepN f k).line r=((C.stepN f r).step f r).line r
 | 0,h=>by omega
 | k+1,h=>by
  by_cases e:r=k
  ·subst e; rfl
  ·exact(z3g (C.stepN f k) f k r e).trans (z4u C f r k (by omega))
theorem z14 {C:RBx} {r:Nat} (h:(C.line r).ph≠46):r < C.lines.length:=by
 rcases Nat.lt_or_ge r C.lines.length with h' | h'
 ·exact h'
 ·exfalso; apply h
  unfold RBx.line;rw[List.getD_eq_getElem?_getD,List.getElem?_eq_none h']; rfl
theorem step_green {C:RBx} (f:Fr) {r:Nat} (hr:r < C.lines.length) (h:((C.step f r).line r).ph=103):C.right f r=true/\C.busy f r=false:=by
 have hp:∀x,(C.put r x).line r=x:=fun x=>by rw[z13 C r r x hr,if_pos rfl]
 unfold RBx.step at h;by_cases h1:(C.line r).ph=119
 ·rw[if_pos h1] at h
  by_cases h2:C.broken r=true
  ·rw[if_pos h2,hp] at h; simp[RLn.withP] at h
  ·rw[if_neg h2] at h
   by_cases h3:(C.right f r&&!C.busy f r)=true
   ·simp at h3; exact h3
   ·rw[if_neg h3] at h; omega
 rw[if_neg h1] at h;by_cases h1:(C.line r).ph=103
 ·rw[if_pos h1] at h
  by_cases h2:C.inB f r=true
  ·rw[if_pos h2] at h
   have e:(C.overtaken r).line r={ C.line r with marks:=z1x (C.L.rt r).path.length,ph:=116 }:=hp _;rw[e] at h; simp at h
  ·rw[if_neg h2] at h
   by_cases h3:C.broken r=true
   ·rw[if_pos h3,hp] at h; simp[RLn.withP] at h
   ·rw[if_neg h3] at h
    by_cases h4:(!C.right f r||C.busy f r)=true
    ·rw[if_pos h4,hp] at h; simp[RLn.withP] at h
    ·simp at h4; exact h4
 rw[if_neg h1] at h;by_cases h1:(C.line r).ph=116
 ·rw[if_pos h1] at h
  unfold RBx.passed at h;have hm:∀x:RLn,x=C.mkd f r->x.ph=116:=fun x e=>by rw[e]; exact h1
  have hm':(C.mkd f r).ph=116:=hm _ rfl
  repeat' split at h
  all_goals
   rw[hp] at h
   first
    | (have h':(C.mkd f r).ph=103:=h; omega)
    | (simp[RLn0] at h)
 rw[if_neg h1] at h;by_cases h1:(C.line r).ph=100
 ·rw[if_pos h1] at h
  by_cases h2:C.inB f r=true
  ·rw[if_pos h2] at h
   have e:(C.overtaken r).line r={ C.line r with marks:=z1x (C.L.rt r).path.length,ph:=116 }:=hp _;rw[e] at h; simp at h
  ·rw[if_neg h2] at h
   by_cases h3:0 < (C.line r).count
   ·rw[if_pos h3,hp] at h; simp at h; omega
   ·rw[if_neg h3] at h
    by_cases h4:(!C.busy f r)=true
    ·rw[if_pos h4] at h
     have e:({ C.put r RLn0 with sta:=C.sta.set (C.line r).train (C.sta.getD (C.line r).train 0 - 1) }:RBx).line r=RLn0:=hp _;rw[e] at h; simp[RLn0] at h
    ·rw[if_neg h4] at h; omega
 ·rw[if_neg h1] at h; omega
theorem doC_line (C:RBx) (f:Fr) (c x r:Nat):(C.doC f c x).line r=C.line r\/((C.doC f c x).line r).ph=100:=by
 unfold RBx.doC RBx.ask RBx.cancel;by_cases h1:c=114
 ·rw[if_pos h1]
  split <;> exact .inl rfl
 rw[if_neg h1];by_cases h2:c=99
 ·rw[if_pos h2]
  split
  ·by_cases e:r=x - 65
   ·by_cases hl:r < C.lines.length
    ·right
     rw[<-e,z13 C r r _ hl,if_pos rfl]
    ·left
     unfold RBx.put RBx.line;simp only;rw[List.set_eq_of_length_le (by omega)]
   ·left; exact z57 _ _ _ e
  ·exact .inl rfl
 rw[if_neg h2];split <;> exact .inl rfl
theorem z58 (C:RBx) (f:Fr) (r:Nat):∀k,(C.doN f k).line r=C.line r\/((C.doN f k).line r).ph=100
 | 0=>.inl rfl
 | k+1=>by
  rcases doC_line (C.doN f k) f (pk f.cmds (2*k)) (pk f.cmds (2*k+1)) r with h | h
  ·rcases z58 C f r k with h' | h'
   ·exact .inl (h.trans h')
   ·right
    show (((C.doN f k).doC f _ _).line r).ph=100;rw[h]; exact h'
  ·exact .inr h
theorem wantN_lines (C:RBx) (r:Nat):∀k,(C.wantN r k).lines=C.lines
 | 0=>rfl
 | k+1=>by
  show ((C.wantN r k).wantK r k).lines=_;unfold RBx.wantK;split
  ·exact wantN_lines C r k
  ·exact wantN_lines C r k
theorem z3h (C:RBx) (r t:Nat):(C.given r t).lines=C.lines.set r (RLnW t):=by
 show (({ C with sta:=C.more t }:RBx).wantN r C.L.sw.length).lines.set r (RLnW t)=_;rw[wantN_lines]
theorem z3i (C:RBx) (f:Fr) (t r:Nat):(C.grant f t).line r=C.line r\/(r=C.nxt t/\C.grantB f t=true/\(C.grant f t).line r=RLnW t):=by
 unfold RBx.grant;by_cases h:C.grantB f t=true
 ·rw[if_pos h]
  by_cases e:r=C.nxt t
  ·by_cases hl:r < C.lines.length
   ·right
    refine⟨e,h,?_⟩;unfold RBx.line;rw[z3h,<-e,z0d _ _ _ _ _ hl,if_pos rfl]
   ·left
    unfold RBx.line;rw[z3h,<-e,List.set_eq_of_length_le (by omega)]
  ·left
   unfold RBx.line;rw[z3h,z0h _ _ _ _ _ e]
 ·rw[if_neg h]; exact .inl rfl
theorem z2r (C:RBx) (f:Fr) (r:Nat):∀k,(C.grantN f k).line r=C.line r\/((C.grantN f k).line r).ph=119
 | 0=>.inl rfl
 | k+1=>by
  rcases z3i (C.grantN f k) f (C.waits.getD k 0) r with h | ⟨-,-,h⟩
  ·rcases z2r C f r k with h' | h'
   ·exact .inl (h.trans h')
   ·right
    show (((C.grantN f k).grant f _).line r).ph=119;rw[h]; exact h'
  ·right
   show (((C.grantN f k).grant f _).line r).ph=119;rw[h]; rfl
def LockU (C:RBx):Prop:=∀r r' s,C.lockB s r=true->C.lockB s r'=true->r=r'
theorem lock_lt {C:RBx} {s r:Nat} (h:C.lockB s r=true):r < C.lines.length:=by
 unfold RBx.lockB at h;simp at h;exact z14 (fun e=>h.1 e)
theorem LockU.sub {C C':RBx} (h:LockU C) (hs:∀s r,C'.lockB s r=true->C.lockB s r=true):LockU C':=fun r r' s a b=>h r r' s (hs s r a) (hs s r' b)
theorem LockU.init (L:Lay):LockU (RBx.init L):=by
 intro r r' s h;unfold RBx.lockB at h;have e:(RBx.init L).line r=RLn0:=z0z _ _ _ _ rfl;rw[e] at h;simp[RLn0] at h
theorem drop_sub {l:List Nat} {a b s:Nat} (h:a<=b) (hs:s∈l.drop b):s∈l.drop a:=by
 have e:l.drop b=(l.drop a).drop (b - a):=by rw[List.drop_drop]; congr 1; omega
 rw[e] at hs;exact List.mem_of_mem_drop hs
def LnSub (x y:RLn):Prop:=x.ph≠46->y.ph≠46/\y.gone<=x.gone
theorem lock_sub {C C':RBx} (hL:C'.L=C.L) {s r:Nat} (h:LnSub (C'.line r) (C.line r)) (hl:C'.lockB s r=true):C.lockB s r=true:=by
 unfold RBx.lockB at hl ⊢;rw[hL] at hl;simp only[Bool.and_eq_true,bne_iff_ne,ne_eq,List.contains_iff_mem] at hl ⊢;obtain⟨h1,h2⟩:=h hl.1;exact⟨h1,drop_sub h2 hl.2⟩
theorem LnSub.refl (x:RLn):LnSub x x:=fun h=>⟨h,Nat.le_refl _⟩
theorem step_sub {C:RBx} (f:Fr) (k r:Nat):LnSub ((C.step f k).line r) (C.line r):=by
 by_cases e:r=k
 case neg=>rw[z3g C f k r e]; exact LnSub.refl _
 subst e;by_cases hr:r < C.lines.length
 case neg=>
  have hn:(C.step f r).lines.length=C.lines.length:=by
   unfold RBx.step RBx.passed RBx.overtaken RBx.put
   repeat' split
   all_goals simp
  intro h;have:=z14 h;omega
 have hp:∀x,(C.put r x).line r=x:=fun x=>by rw[z13 C r r x hr,if_pos rfl]
 have hov:(C.overtaken r).line r={ C.line r with marks:=z1x (C.L.rt r).path.length,ph:=116 }:=hp _;unfold RBx.step;by_cases h1:(C.line r).ph=119
 ·rw[if_pos h1]
  split
  ·rw[hp]; exact fun _=>⟨by omega,Nat.le_refl _⟩
  ·split
   ·rw[hp]; exact fun _=>⟨by omega,Nat.le_refl _⟩
   ·exact LnSub.refl _
 rw[if_neg h1];by_cases h1:(C.line r).ph=103
 ·rw[if_pos h1]
  split
  ·rw[hov]; exact fun _=>⟨by omega,Nat.le_refl _⟩
  ·split
   ·rw[hp]; exact fun _=>⟨by omega,Nat.le_refl _⟩
   ·split
    ·rw[hp]; exact fun _=>⟨by omega,Nat.le_refl _⟩
    ·exact LnSub.refl _
 rw[if_neg h1];by_cases h1:(C.line r).ph=116
 ·rw[if_pos h1]
  unfold RBx.passed;have hm:∀x:RLn,(C.line r).gone<=x.gone->LnSub x (C.line r):=fun x hx _=>⟨by omega,hx⟩
  have hg:(C.mkd f r).gone=(C.line r).gone:=rfl
  repeat' split
  all_goals rw[hp]
  all_goals first
   | exact hm _ (Nat.le_refl _)
   | exact hm _ (Nat.le_succ _)
   | exact fun h=>absurd rfl h
 rw[if_neg h1];by_cases h1:(C.line r).ph=100
 ·rw[if_pos h1]
  split
  ·rw[hov]; exact fun _=>⟨by omega,Nat.le_refl _⟩
  ·split
   ·rw[hp]; exact fun _=>⟨by omega,Nat.le_refl _⟩
   ·split
    ·have e:({ C.put r RLn0 with sta:=C.sta.set (C.line r).train (C.sta.getD (C.line r).train 0 - 1) }:RBx).line r=RLn0:=hp _
     rw[e]; exact fun h=>absurd rfl h
    ·exact LnSub.refl _
 ·rw[if_neg h1]; exact LnSub.refl _
theorem doC_sub {C:RBx} (f:Fr) (c x r:Nat):LnSub ((C.doC f c x).line r) (C.line r):=by
 unfold RBx.doC RBx.ask RBx.cancel;by_cases h1:c=114
 ·rw[if_pos h1]
  split <;> exact LnSub.refl _
 rw[if_neg h1];by_cases h2:c=99
 ·rw[if_pos h2]
  split
  ·rename_i hc
   by_cases e:r=x - 65
   ·by_cases hl:r < C.lines.length
    ·rw[<-e,z13 C r r _ hl,if_pos rfl]
     intro _;refine⟨?_,Nat.le_refl _⟩;unfold RBx.canc at hc;rw[<-e] at hc;simp at hc;omega
    ·have e2:(C.put (x - 65) ⟨100,(C.line (x - 65)).train,(C.line (x - 65)).been,(C.line (x - 65)).marks,(C.line (x - 65)).gone,if (C.line (x - 65)).been&&f.occ.getD (C.L.rt (x - 65)).foot false then C.L.D else 0⟩).line r=C.line r:=by
      unfold RBx.put RBx.line;simp only;rw[List.set_eq_of_length_le (by omega)]
     rw[e2]; exact LnSub.refl _
   ·rw[z57 _ _ _ e]; exact LnSub.refl _
  ·exact LnSub.refl _
 rw[if_neg h2];split <;> exact LnSub.refl _
theorem LockU.watchN {C:RBx} (h:LockU C) (f:Fr) (k:Nat):LockU (C.watchN f k):=by
 obtain⟨-,b,c,-⟩:=z0l C f k;refine h.sub (fun s r hl=>lock_sub b ?_ hl);unfold RBx.line;rw[c];exact LnSub.refl _
theorem LockU.stepN {C:RBx} (h:LockU C) (f:Fr):∀k,LockU (C.stepN f k)
 | 0=>h
 | k+1=>(LockU.stepN h f k).sub (fun _ r hl=>lock_sub (z5s (C.stepN f k) f k).2.1 (step_sub f k r) hl)
theorem LockU.doN {C:RBx} (h:LockU C) (f:Fr):∀k,LockU (C.doN f k)
 | 0=>h
 | k+1=>(LockU.doN h f k).sub (fun _ r hl=>lock_sub (doC_keep (C.doN f k) f _ _).2.1 (doC_sub f _ _ r) hl)
theorem z4v {C:RBx} {f:Fr} {r:Nat} (h:C.free f r=true) {s:Nat} (hs:s < C.L.sw.length) (hp:s∈secs (C.L.rt r).path):C.lockedBy s=none/\f.occ.getD s false=false:=by
 unfold RBx.free at h;rw[List.all_eq_true] at h;have:=h s (List.mem_range.2 hs);unfold RBx.freeB at this;have hh:has (C.L.rt r).path s=true:=by unfold has; rw[List.contains_iff_mem]; exact hp
 rw[hh] at this;simp only[Bool.true_and,Bool.and_eq_true,Bool.not_eq_true'] at this;have ht:=this.1;unfold RBx.takenB at ht;simp at ht;refine⟨?_,ht.2⟩;cases e:C.lockedBy s with
 | none=>rfl
 | some r'=>rw[e] at ht; simp at ht
theorem z3j {C:RBx} {s:Nat} (h:C.lockedBy s=none) (r:Nat):C.lockB s r=false:=by
 cases e:C.lockB s r with
 | false=>rfl
 | true=>
  have:=List.find?_eq_none.1 h r (List.mem_range.2 (lock_lt e));simp[e] at this
theorem grant_L (C:RBx) (f:Fr) (t:Nat):(C.grant f t).L=C.L:=by
 unfold RBx.grant;split
 ·show (({ C with sta:=C.more t }:RBx).wantN (C.nxt t) C.L.sw.length).L=C.L
  have:∀k,(({ C with sta:=C.more t }:RBx).wantN (C.nxt t) k).L=C.L:=by
   intro k
   induction k with
   | zero=>rfl
   | succ k ih=>
    show ((({ C with sta:=C.more t }:RBx).wantN (C.nxt t) k).wantK (C.nxt t) k).L=C.L;unfold RBx.wantK;split
    ·exact ih
    ·exact ih
  exact this _
 ·rfl
theorem LockU.grant {C:RBx} {q:List Nat} (hi:Inv { C with waits:=q }) (h:LockU C) (f:Fr) (t:Nat) (ht:t < C.L.tns.length) (hj:C.sta.getD t 0 < (C.L.tn t).jny.length):LockU (C.grant f t):=by
 intro r r' s h1 h2;by_cases hg:C.grantB f t=true
 case neg=>
  have e:C.grant f t=C:=by unfold RBx.grant; rw[if_neg hg]
  rw[e] at h1 h2;exact h r r' s h1 h2
 have hfree:C.free f (C.nxt t)=true:=by unfold RBx.grantB at hg; simp at hg; exact hg.1.2
 have hn:C.nxt t < C.L.rts.length:=by
  have hm:C.L.tn t∈C.L.tns:=by unfold Lay.tn; rw[z05 ht]; exact List.getElem_mem ht
  refine hi.lay.good.jnys _ hm _ ?_;unfold RBx.nxt;rw[z05 hj];exact List.getElem_mem hj
 have hro:=hi.rt (r:=C.nxt t) hn;have hL:=grant_L C f t;have key:∀r,(C.grant f t).lockB s r=true->(r=C.nxt t/\s∈secs (C.L.rt (C.nxt t)).path)\/C.lockB s r=true:=by
  intro r hr;rcases z3i C f t r with e | ⟨e,-,e2⟩
  ·right
   exact lock_sub hL (by rw[e]; exact LnSub.refl _) hr
  ·left
   refine⟨e,?_⟩;unfold RBx.lockB at hr;rw[e2,hL,e] at hr;simp[RLnW] at hr;exact hr
 have hno:s∈secs (C.L.rt (C.nxt t)).path->∀r,C.lockB s r=false:=by
  intro hs r;obtain⟨x,hx,e⟩:=List.mem_map.1 (show s∈(C.L.rt (C.nxt t)).path.map (·.1) from hs);have hsl:s < C.L.sw.length:=by rw[<-e]; exact(hro.ps x hx).1
  exact z3j (z4v hfree hsl hs).1 r
 rcases key r h1 with ⟨a,b⟩ | a <;> rcases key r' h2 with ⟨a',b'⟩ | a'
 ·omega
 ·rw[hno b r'] at a'; cases a'
 ·rw[hno b' r] at a; cases a
 ·exact h r r' s a a'
theorem LockU.grantN {C:RBx} {f:Fr} (h:LockU C) (hg:∀k,k<=C.waits.length->Inv { C.grantN f k with waits:=C.leftN f k++C.waits.drop k }):∀k,k<=C.waits.length->LockU (C.grantN f k)
 | 0,_=>h
 | k+1,hk=>by
  have hi:=hg k (by omega);have hm:C.waits.getD k 0∈C.leftN f k++C.waits.drop k:=by
   rw[z05 (by omega),List.drop_eq_getElem_cons (by omega)];exact List.mem_append_right _ (List.mem_cons_self ..)
  obtain⟨a,b⟩:=hi.wt _ hm;exact LockU.grant hi (LockU.grantN h hg k (by omega)) f _ a b
theorem LockU.s4 {C:RBx} {f:Fr} (h:LockU C) (S:Stgs C f):LockU (C.s4 f):=by
 have h1:LockU (C.s1 f):=h.watchN f _;have h2:LockU (C.s2 f):=h1.stepN f _;have h3:LockU (C.s3 f):=h2.doN f _;have h4:=h3.grantN S.g (C.s3 f).waits.length (Nat.le_refl _);exact h4
structure KI (C:RBx):Prop where
 lk:LockU C
theorem KI.init (L:Lay):KI (RBx.init L):=⟨LockU.init L⟩
theorem KI.cyc {B:PBx} {C:RBx} (h:KI C) (hs:Sim B C) (hi:Inv C) (s:ByteArray):KI (C.cyc s):=by
 unfold RBx.cyc;split
 ·rename_i hf
  have S:=stages hs hi s hf;exact⟨h.lk.s4 S⟩
 ·exact h
theorem z23 {w:World} {v:Value} {ll:List (List Nat)} (h:IRows w v ll) (r:Nat) (hr:r < ll.length):∃g off cap ar cr,v=.slice (some ⟨g,off,none⟩) ll.length cap/\g < w.heap.size/\w.cell? ⟨g,off+r,none⟩=some (.slice ar ll[r].length cr)/\Ints w (.slice ar ll[r].length cr) ll[r]:=by
 obtain⟨ao,cap,rfl,-,-,h3⟩:=SlAt.open h;obtain⟨g,off,rfl,hg,cs,-,hC,hc⟩:=h3 r hr;obtain⟨u,rfl,hu⟩:=hC;obtain⟨ar,cr,rfl,-⟩:=SlAt.open hu;have:=hc 0 (by omega);exact⟨g,off,cap,ar,cr,rfl,hg,by simpa using this,hu⟩
theorem z24 {w:World} {v:Value} {l:List Nat} (h:Ints w v l):∃ao cap,v=.slice ao l.length cap/\l.length<=maxLen/\∀i (_:i < l.length),∃g off,ao=some ⟨g,off,none⟩/\g < w.heap.size/\w.cell? ⟨g,off+i,none⟩=some (.int .i64 (l[i]:Nat)):=by
 obtain⟨ao,cap,rfl,h1,h2,h3⟩:=SlAt.open h;refine⟨ao,cap,rfl,by omega,fun i hi=>?_⟩;obtain⟨g,off,rfl,hg,cs,-,hC,hc⟩:=h3 i hi;have hC':cs=[.int .i64 (l[i]:Nat)]:=hC;subst hC';have:=hc 0 (by omega);exact⟨g,off,rfl,hg,by simpa using this⟩
theorem z42 {L:Lay} {r:Nat} (hr:r < L.rts.length):(L.rts.map (fun r=>secs r.path))[r]'(by simpa using hr)=secs (L.rt r).path:=by
 rw[List.getElem_map];unfold Lay.rt;rw[z05 hr]
theorem brow_at {w:World} {v:Value} {ll:List (List Nat)} (h:BRows w v ll) (r:Nat) (hr:r < ll.length):∃g off cap ar cr,v=.slice (some ⟨g,off,none⟩) ll.length cap/\g < w.heap.size/\w.cell? ⟨g,off+r,none⟩=some (.slice ar ll[r].length cr)/\Byts w (.slice ar ll[r].length cr) ll[r]:=by
 obtain⟨ao,cap,rfl,-,-,h3⟩:=SlAt.open h;obtain⟨g,off,rfl,hg,cs,-,hC,hc⟩:=h3 r hr;obtain⟨u,rfl,hu⟩:=hC;obtain⟨ar,cr,rfl,-⟩:=SlAt.open hu;have:=hc 0 (by omega);exact⟨g,off,cap,ar,cr,rfl,hg,by simpa using this,hu⟩
theorem byts_at {w:World} {v:Value} {l:List Nat} (h:Byts w v l):∃ao cap,v=.slice ao l.length cap/\l.length<=maxLen/\∀i (_:i < l.length),∃g off,ao=some ⟨g,off,none⟩/\g < w.heap.size/\w.cell? ⟨g,off+i,none⟩=some (.int .u8 (l[i]:Nat)):=by
 obtain⟨ao,cap,rfl,h1,h2,h3⟩:=SlAt.open h;refine⟨ao,cap,rfl,by omega,fun i hi=>?_⟩;obtain⟨g,off,rfl,hg,cs,-,hC,hc⟩:=h3 i hi;have hC':cs=[.int .u8 (l[i]:Nat)]:=hC;subst hC';have:=hc 0 (by omega);exact⟨g,off,rfl,hg,by simpa using this⟩
theorem rts_want {L:Lay} {r:Nat} (hr:r < L.rts.length):(L.rts.map (z31 L.sw.length))[r]'(by simpa using hr)=z31 L.sw.length (L.rt r):=by
 rw[List.getElem_map];unfold Lay.rt;rw[z05 hr]
theorem want_at {w:World} {v:Value} {L:Lay} (h:BRows w v (L.rts.map (z31 L.sw.length))) {r:Nat} (hr:r < L.rts.length) (ho:RtOK L (L.rt r)):∃g off cap gr or_ cr,v=.slice (some ⟨g,off,none⟩) L.rts.length cap/\g < w.heap.size/\(0 < L.sw.length->w.cell? ⟨g,off+r,none⟩=some (.slice (some ⟨gr,or_,none⟩) L.sw.length cr)/\gr < w.heap.size/\∀s,s < L.sw.length->w.cell? ⟨gr,or_+s,none⟩=some (.int .u8 (L.wantsF r s:Nat))):=by
 obtain⟨g,off,cap,ar,cr,hv,hg,hx,hu⟩:=brow_at h r (by simpa using hr);rw[rts_want hr] at hx hu;obtain⟨ao,cp,hv2,-,hrow⟩:=byts_at hu;rw[z4s] at hx hv2;simp only[Value.slice.injEq] at hv2;obtain⟨rfl,-,rfl⟩:=hv2;rw[List.length_map] at hv;by_cases h0:0 < L.sw.length
 ·obtain⟨gr,or_,rfl,hgr,-⟩:=hrow 0 (by rw[z4s]; exact h0)
  refine⟨g,off,cap,gr,or_,cr,hv,hg,fun _=>⟨hx,hgr,fun s hs=>?_⟩⟩;obtain⟨g2,o2,e2,-,hc⟩:=hrow s (by rw[z4s]; exact hs);simp only[Option.some.injEq,Addr.mk.injEq,and_true] at e2;obtain⟨rfl,rfl⟩:=e2;rw[hc];have:=wantRow_get ho s;rw[z05 (by rw[z4s]; exact hs)] at this;rw[this]
 ·exact⟨g,off,cap,0,0,cr,hv,hg,fun h=>absurd h h0⟩
theorem Inv.ph256 {C:RBx} (h:∀x,x∈C.phasesT->x < 256) (r:Nat) (hr:r < C.lines.length):pk (phS C) r=(C.line r).ph:=by
 unfold phS;rw[z2j h];unfold RBx.phasesT RBx.line;rw[z05 (by simpa using hr),z05 hr,List.getElem_map]
def PhOK (C:RBx):Prop:=∀r,(C.line r).ph=46\/(C.line r).ph=119\/(C.line r).ph=103\/(C.line r).ph=116\/(C.line r).ph=102\/(C.line r).ph=100
theorem PhOK.small {C:RBx} (h:PhOK C):∀x,x∈C.phasesT->x < 256:=by
 intro x hx;obtain⟨y,hy,rfl⟩:=List.mem_map.1 hx;obtain⟨r,hr,rfl⟩:=List.mem_iff_getElem.1 hy;have:=h r;unfold RBx.line at this;rw[z05 hr] at this;omega
theorem PhOK.init (L:Lay):PhOK (RBx.init L):=by
 intro r;have e:(RBx.init L).line r=RLn0:=z0z _ _ _ _ rfl;rw[e]; exact .inl rfl
theorem PhOK.put {C:RBx} (h:PhOK C) (k:Nat) (x:RLn) (hx:x.ph=46\/x.ph=119\/x.ph=103\/x.ph=116\/x.ph=102\/x.ph=100):PhOK (C.put k x):=by
 intro r;by_cases e:r=k
 ·by_cases hl:k < C.lines.length
  ·rw[z13 C k r x hl,if_pos e]; exact hx
  ·have e2:(C.put k x).line r=C.line r:=by
    unfold RBx.put RBx.line;simp only;rw[List.set_eq_of_length_le (by omega)]
   rw[e2]; exact h r
 ·rw[z57 _ _ _ e]; exact h r
theorem PhOK.step {C:RBx} (h:PhOK C) (f:Fr) (k:Nat):PhOK (C.step f k):=by
 have hk:=h k;unfold RBx.step RBx.passed RBx.overtaken
 repeat' split
 all_goals first
  | exact h
  | exact h.put k _ hk
  | exact h.put k _ (.inl rfl)
  | exact h.put k _ (.inr (.inl rfl))
  | exact h.put k _ (.inr (.inr (.inl rfl)))
  | exact h.put k _ (.inr (.inr (.inr (.inl rfl))))
  | exact h.put k _ (.inr (.inr (.inr (.inr (.inl rfl)))))
  | exact h.put k _ (.inr (.inr (.inr (.inr (.inr rfl)))))
theorem PhOK.stepN {C:RBx} (h:PhOK C) (f:Fr):∀k,PhOK (C.stepN f k)
 | 0=>h
 | k+1=>(PhOK.stepN h f k).step f k
theorem PhOK.doN {C:RBx} (h:PhOK C) (f:Fr) (k:Nat):PhOK (C.doN f k):=by
 intro r;rcases z58 C f r k with e | e
 ·rw[e]; exact h r
 ·omega
theorem PhOK.s4 {C:RBx} (h:PhOK C) (f:Fr):PhOK (C.s4 f):=by
 have h1:PhOK (C.s1 f):=by
  intro r;have:=(z0l C f C.L.sw.length).2.2.1;have e:(C.s1 f).line r=C.line r:=by unfold RBx.line; exact congrArg (fun l=>l.getD r RLn0) this
  rw[e]; exact h r
 have h2:PhOK (C.s2 f):=h1.stepN f _;have h3:PhOK (C.s3 f):=h2.doN f _;intro r;rcases z2r (C.s3 f) f r (C.s3 f).waits.length with e | e
 ·have e':(C.s4 f).line r=(C.s3 f).line r:=e
  rw[e']; exact h3 r
 ·have e':((C.s4 f).line r).ph=119:=e
  omega
structure KJ (C:RBx):Prop where
 ki:KI C
 ph:PhOK C
theorem KJ.init (L:Lay):KJ (RBx.init L):=⟨KI.init L,PhOK.init L⟩
theorem KJ.cyc {B:PBx} {C:RBx} (h:KJ C) (hs:Sim B C) (hi:Inv C) (s:ByteArray):KJ (C.cyc s):=by
 refine⟨h.ki.cyc hs hi s,?_⟩;unfold RBx.cyc;split
 ·exact h.ph.s4 _
 ·exact h.ph
theorem lock_pk {C:RBx} (hi:Inv C) {x:Nat} (hx:x < C.L.sw.length):pk (lkS C) x=lockC (C.lockedBy x):=by
 have h2:=hi.lay.rl;have hr:∀y r,C.lockedBy y=some r->r<=100:=by
  intro y r hyr;unfold RBx.lockedBy at hyr;have:=List.mem_of_find?_eq_some hyr;have:=List.mem_range.1 this;rw[hi.ll] at this;omega
 unfold lkS;rw[z2j (fun z hz=>by
  obtain⟨y,-,rfl⟩:=List.mem_map.1 hz;exact lock_256 _ (hr y))]
 unfold RBx.locksT;rw[z05 (by simpa using hx),List.getElem_map,List.getElem_range]
theorem lamp_pk {C:RBx} {s:ByteArray} {r:Nat} (hr:r < (C.s4 (C.L.frOf s)).lines.length):pk (laS C s) r=if ((C.s4 (C.L.frOf s)).line r).ph=103 then 103 else 114:=by
 unfold laS;rw[z2j (fun x hx=>by
  obtain⟨y,-,rfl⟩:=List.mem_map.1 hx;unfold rlampC;split <;> omega)]
 unfold RBx.lampsT RBx.line;rw[z05 (by simpa using hr),z05 hr,List.getElem_map];rfl
theorem occ_at {L:Lay} {s:ByteArray} (x:Nat) (hx:x < L.sw.length):(L.frOf s).occ.getD x false=(pk s x==49):=by
 show ((List.range L.sw.length).map (fun i=>pk s i==49)).getD x false=_;rw[z05 (by simpa using hx),List.getElem_map,List.getElem_range]
theorem rep_at {L:Lay} {s:ByteArray} (x:Nat) (hx:x < L.sw.length):(L.frOf s).rep.getD x 0=L.repF s x:=by
 show ((List.range L.sw.length).map (L.repF s)).getD x 0=_;rw[z05 (by simpa using hx),List.getElem_map,List.getElem_range]
theorem rep_pts {L:Lay} {s:ByteArray} {k:Nat} (hk:k < (z03 0 L.sw).length):(z03 0 L.sw)[k] < L.sw.length/\(L.frOf s).rep.getD (z03 0 L.sw)[k] 0=pk s (L.sw.length+k)/\L.sw.getD (z03 0 L.sw)[k] false=true:=by
 obtain⟨-,a2,a3,a4⟩:=pts_get L.sw 0 k hk;rw[Nat.sub_zero] at a2 a3 a4;refine⟨a2,?_,a3⟩;rw[rep_at _ a2];unfold Lay.repF Lay.posR;rw[if_pos a3,a4]
end Go.Proofs.YtkbpocecbcaiiabGreatDoor
namespace Go.Proofs.YtkbpocecbcaiiabGreatDoor
open Go.RowKit
end Go.Proofs.YtkbpocecbcaiiabGreatDoor
namespace Go.Proofs.YtkbpocecbcaiiabGreatDoor
open Go.RowKit
end Go.Proofs.YtkbpocecbcaiiabGreatDoor
namespace Go.Proofs.YtkbpocecbcaiiabGreatDoor
open Go.RowKit
theorem z2e {w:World} {g:Nat} {t0 t1 t2 t3:ByteArray} (h:w.heap[g]?=some (heardO t0 t1 t2 t3)) :
  (w.cell? ⟨g,0,none⟩=some (.string t0)/\w.cell? ⟨g,1,none⟩=some (.string t1)/\w.cell? ⟨g,2,none⟩=some (.string t2)/\w.cell? ⟨g,3,none⟩=some (.string t3))/\g < w.heap.size:=
 ⟨⟨z07 h 0,z07 h 1,z07 h 2,z07 h 3⟩,z0g h⟩
def WtP (p:Nat):Prop:=p=119\/p=103
def WtOK (C:RBx):Prop:=∀r,WtP (C.line r).ph->∀x,C.L.wantsF r x≠0->C.wanted.getD x 0=C.L.wantsF r x
theorem WtOK.init (L:Lay):WtOK (RBx.init L):=by
 intro r h;have e:(RBx.init L).line r=RLn0:=z0z _ _ _ _ rfl;rw[e] at h; simp[RLn0,WtP] at h
theorem WtOK.sub {C C':RBx} (h:WtOK C) (hw:C'.wanted=C.wanted) (hL:C'.L=C.L) (hl:∀r,WtP (C'.line r).ph->WtP (C.line r).ph):WtOK C':=by
 intro r hr x hx;rw[hL] at hx ⊢;rw[hw];exact h r (hl r hr) x hx
theorem put_or (C:RBx) (k r:Nat) (x:RLn):(C.put k x).line r=x\/(C.put k x).line r=C.line r:=by
 by_cases e:r=k
 ·by_cases hl:k < C.lines.length
  ·left; rw[z13 C k r x hl,if_pos e]
  ·right
   unfold RBx.put RBx.line;simp only;rw[List.set_eq_of_length_le (by omega)]
 ·right; exact z57 _ _ _ e
theorem step_119 {C:RBx} (f:Fr) (k r:Nat) (h:WtP ((C.step f k).line r).ph):WtP (C.line r).ph:=by
 by_cases e:r=k
 case neg=>rw[z3g C f k r e] at h; exact h
 subst e;by_cases h0:WtP (C.line r).ph
 ·exact h0
 have h1:(C.line r).ph≠119:=fun e=>h0 (.inl e);have h2:(C.line r).ph≠103:=fun e=>h0 (.inr e);have hp:∀x:RLn,¬WtP x.ph->¬WtP ((C.put r x).line r).ph:=by
  intro x hx;rcases put_or C r r x with e | e
  ·rw[e]; exact hx
  ·rw[e]; exact h0
 exfalso;have hm:(C.mkd f r).ph=(C.line r).ph:=rfl;have hps:∀{D:RBx} {x:RLn},D.lines=(C.put r x).lines->¬WtP x.ph->¬WtP (D.line r).ph:=by
  intro D x hD hx;have:D.line r=(C.put r x).line r:=by unfold RBx.line; rw[hD]
  rw[this]; exact hp x hx
 revert h
 unfold RBx.step RBx.passed RBx.overtaken;rw[if_neg h1,if_neg h2]
 repeat' split
 all_goals first
  | (exact h0)
  | (refine hp _ ?_; first | (simp[RLn0,WtP]; done) | (show ¬WtP (C.mkd f r).ph; rw[hm]; exact h0) | (show ¬WtP (C.line r).ph; exact h0))
  | (refine hps rfl ?_; simp[RLn0,WtP]; done)
theorem WtOK.stepN {C:RBx} (h:WtOK C) (f:Fr):∀k,WtOK (C.stepN f k)
 | 0=>h
 | k+1=>(WtOK.stepN h f k).sub (z5s (C.stepN f k) f k).1 (z5s (C.stepN f k) f k).2.1 (fun r hr=>step_119 f k r hr)
theorem WtOK.doN {C:RBx} (h:WtOK C) (f:Fr) (k:Nat):WtOK (C.doN f k):=by
 obtain⟨a,b,-⟩:=z56 C f k;refine h.sub a b (fun r hr=>?_);rcases z58 C f r k with e | e
 ·rw[e] at hr; exact hr
 ·unfold WtP at hr; omega
theorem wants_lt {L:Lay} {r x:Nat} (h:RtOK L (L.rt r)) (hx:L.wantsF r x≠0):x < L.sw.length:=by
 unfold Lay.wantsF at hx;cases hp:z1l (L.rt r).path x with
 | some v=>
  obtain⟨y,h1,h2,-⟩:=z41 hp;have:=(h.ps y h1).1;omega
 | none=>
  cases hq:z1l (L.rt r).flank x with
  | some v=>
   obtain⟨y,h1,h2,-⟩:=z41 hq;have:=(h.fs y h1).1;omega
  | none=>rw[hp,hq] at hx; exact absurd rfl hx
theorem held_of {C:RBx} (hL:∀r,r < C.L.rts.length->(C.line r).ph≠116->(C.line r).gone=0) (hll:C.lines.length=C.L.rts.length) {r x:Nat} (hp':WtP (C.line r).ph) (hx:C.L.wantsF r x≠0):C.heldB x=true:=by
 have hp:(C.line r).ph≠46/\(C.line r).ph≠116:=by unfold WtP at hp'; omega
 have hr:=z14 (C:=C) (r:=r) hp.1;have g0:=hL r (by omega) hp.2;have hb:((C.line r).ph != 46)=true:=by simpa using hp.1
 unfold RBx.heldB;unfold Lay.wantsF at hx;cases hs:z1l (C.L.rt r).path x with
 | some v=>
  have hh:=z4f hs;have hl:C.lockB x r=true:=by
   unfold RBx.lockB;unfold has at hh;rw[g0,hb,List.drop_zero]
   simpa using hh
  have:(C.lockedBy x).isSome=true:=by
   unfold RBx.lockedBy;rw[List.find?_isSome];exact⟨r,List.mem_range.2 hr,hl⟩
  rw[this]; rfl
 | none=>
  cases hq:z1l (C.L.rt r).flank x with
  | some v=>
   have hh:=z4f hq;have:(List.range C.lines.length).any (C.flankB x)=true:=by
    rw[List.any_eq_true];refine⟨r,List.mem_range.2 hr,?_⟩;unfold RBx.flankB;rw[hh,hb]; rfl
   rw[this,Bool.or_true]
  | none=>rw[hs,hq] at hx; exact absurd rfl hx
theorem z59 {C:RBx} (hwl:C.wanted.length=C.L.sw.length) {f:Fr} {t:Nat} (hg:C.grantB f t=true) (x:Nat):(C.grant f t).wanted.getD x 0=if x < C.L.sw.length/\C.L.wantsF (C.nxt t) x≠0 then C.L.wantsF (C.nxt t) x else C.wanted.getD x 0:=by
 unfold RBx.grant;rw[if_pos hg];exact(rwant_get ({ C with sta:=C.more t }:RBx) (C.nxt t) C.L.sw.length (by rw[<-hwl]; exact Nat.le_refl _)).2.1 x
theorem z4w {C:RBx} {f:Fr} {t:Nat} (hg:C.grantB f t=true):(C.grant f t).sta=C.more t:=by
 unfold RBx.grant;rw[if_pos hg];exact(rwantN_pres ({ C with sta:=C.more t }:RBx) (C.nxt t) C.L.sw.length).2.2.1
theorem free_want {C:RBx} {f:Fr} {r x:Nat} (h:C.free f r=true) (hx:x < C.L.sw.length) (hw:C.L.wantsF r x≠0):C.wanted.getD x 0=C.L.wantsF r x\/(C.heldB x=false/\f.occ.getD x false=false):=by
 unfold RBx.free at h;rw[List.all_eq_true] at h;have:=h x (List.mem_range.2 hx);unfold RBx.freeB RBx.takenB at this;by_cases e:C.wanted.getD x 0=C.L.wantsF r x
 ·exact .inl e
 ·right
  have e1:(C.L.wantsF r x != 0)=true:=by simpa using hw
  have e2:(C.wanted.getD x 0 != C.L.wantsF r x)=true:=by simpa using e
  rw[e1,e2] at this;simp at this;exact⟨this.2.2.1,this.2.2.2.2⟩
theorem z4g {C:RBx} {f:Fr} {t:Nat} (hg:C.grantB f t=true):C.free f (C.nxt t)=true:=by unfold RBx.grantB at hg; simp at hg; exact hg.1.2
theorem WtOK.grant {C:RBx} {q:List Nat} (hi:Inv { C with waits:=q }) (h:WtOK C) (f:Fr) (t:Nat) (ht:t < C.L.tns.length) (hj:C.sta.getD t 0 < (C.L.tn t).jny.length):WtOK (C.grant f t):=by
 intro r hr x hx;have hwl:C.wanted.length=C.L.sw.length:=hi.wl;by_cases hg:C.grantB f t=true
 case neg=>
  have e:C.grant f t=C:=by unfold RBx.grant; rw[if_neg hg]
  rw[e] at hr hx ⊢;exact h r hr x hx
 rw[grant_L] at hx ⊢;have hn:C.nxt t < C.L.rts.length:=by
  have hm:C.L.tn t∈C.L.tns:=by unfold Lay.tn; rw[z05 ht]; exact List.getElem_mem ht
  refine hi.lay.good.jnys _ hm _ ?_;unfold RBx.nxt;rw[z05 hj];exact List.getElem_mem hj
 have hro:RtOK C.L (C.L.rt (C.nxt t)):=hi.rt (r:=C.nxt t) hn;rw[z59 hwl hg];rcases z3i C f t r with e | ⟨e1,-,e2⟩
 ·rw[e] at hr
  have h1:=h r hr x hx;by_cases hc:x < C.L.sw.length/\C.L.wantsF (C.nxt t) x≠0
  ·rw[if_pos hc]
   rcases free_want (z4g hg) hc.1 hc.2 with h2 | ⟨h2,-⟩
   ·omega
   ·have:=held_of (C:=C) (fun r hr=>(hi.li r hr).g0) hi.ll hr hx
    rw[this] at h2; cases h2
  ·rw[if_neg hc]; exact h1
 ·subst e1
  rw[if_pos ⟨wants_lt hro hx,hx⟩]
theorem WtOK.grantN {C:RBx} {f:Fr} (h:WtOK C) (hg:∀k,k<=C.waits.length->Inv { C.grantN f k with waits:=C.leftN f k++C.waits.drop k }):∀k,k<=C.waits.length->WtOK (C.grantN f k)
 | 0,_=>h
 | k+1,hk=>by
  have hi:=hg k (by omega);have hm:C.waits.getD k 0∈C.leftN f k++C.waits.drop k:=by
   rw[z05 (by omega),List.drop_eq_getElem_cons (by omega)];exact List.mem_append_right _ (List.mem_cons_self ..)
  obtain⟨a,b⟩:=hi.wt _ hm;exact WtOK.grant hi (WtOK.grantN h hg k (by omega)) f _ a b
theorem WtOK.s4 {C:RBx} {f:Fr} (h:WtOK C) (S:Stgs C f):WtOK (C.s4 f):=by
 have h1:WtOK (C.s1 f):=by
  obtain⟨a,b,c,-⟩:=z0l C f C.L.sw.length;refine h.sub a b (fun r hr=>?_);have e:(C.s1 f).line r=C.line r:=by unfold RBx.line; exact congrArg (fun l=>l.getD r RLn0) c
  rw[<-e]; exact hr
 have h2:WtOK (C.s2 f):=h1.stepN f _;have h3:WtOK (C.s3 f):=h2.doN f _;exact h3.grantN S.g (C.s3 f).waits.length (Nat.le_refl _)
theorem grantN_L (C:RBx) (f:Fr):∀k,(C.grantN f k).L=C.L
 | 0=>rfl
 | k+1=>(grant_L (C.grantN f k) f _).trans (grantN_L C f k)
def mixN (new old:List Nat) (k:Nat):List Nat:=new.take k++old.drop k
theorem mixN_set {new old:List Nat} (h:new.length=old.length) {k:Nat} (hk:k < old.length):(mixN new old k).set k (new.getD k 0)=mixN new old (k+1):=by
 unfold mixN;have h1:(new.take k).length=k:=by rw[List.length_take]; omega
 rw[List.set_append_right _ _ (by omega),h1,Nat.sub_self,z05 (by omega),List.take_succ_eq_append_getElem (by omega),List.append_assoc,List.drop_eq_getElem_cons hk];rfl
theorem mixN_end {new old:List Nat} (h:new.length=old.length):mixN new old old.length=new:=by
 unfold mixN;rw[List.drop_length,List.append_nil,<-h,List.take_length]
theorem step_sta (C:RBx) (f:Fr) (k:Nat):(C.step f k).sta=C.sta\/((C.line k).ph=100/\(C.step f k).sta=C.sta.set (C.line k).train (C.sta.getD (C.line k).train 0 - 1)/\(C.step f k).lines=C.lines.set k RLn0):=by
 unfold RBx.step RBx.passed RBx.overtaken
 repeat' split
 all_goals first
  | exact .inl rfl
  | exact .inr ⟨by assumption,rfl,rfl⟩
def JnOK (C:RBx):Prop:=∀r,(C.line r).ph≠46->(C.L.tn (C.line r).train).jny.getD (C.sta.getD (C.line r).train 0 - 1) 0=r
theorem stepN_sta {C:RBx} (hi:Inv C) (f:Fr) (t:Nat):∀k,k<=C.L.rts.length->(C.stepN f k).sta.getD t 0=C.sta.getD t 0\/∃r,r < k/\(C.line r).ph=100/\(C.line r).train=t/\(C.stepN f k).sta.getD t 0=C.sta.getD t 0 - 1
 | 0,_=>.inl rfl
 | k+1,hk=>by
  have ih:=stepN_sta hi f t k (by omega);have hl:(C.stepN f k).line k=C.line k:=z4t C f k k (Nat.le_refl _);show ((C.stepN f k).step f k).sta.getD t 0=_\/∃r,r < k+1/\_/\_/\((C.stepN f k).step f k).sta.getD t 0=_;rcases step_sta (C.stepN f k) f k with h1 | ⟨h1,h2,-⟩
  ·rw[h1]
   rcases ih with h | ⟨r,a,b⟩
   ·exact .inl h
   ·exact .inr ⟨r,by omega,b⟩
  ·rw[hl] at h1 h2
   rw[h2];by_cases e:t=(C.line k).train
   ·subst e
    rcases ih with h | ⟨r,a,b,c,d⟩
    ·right
     refine⟨k,by omega,h1,rfl,?_⟩;have htl:(C.line k).train < (C.stepN f k).sta.length:=by
      have h3:=(hi.tr k (by omega) (by omega)).1;have h4:∀j,(C.stepN f j).sta.length=C.sta.length:=by
       intro j
       induction j with
       | zero=>rfl
       | succ j ihj=>
        show ((C.stepN f j).step f j).sta.length=_;rcases step_sta (C.stepN f j) f j with e | ⟨-,e,-⟩
        ·rw[e]; exact ihj
        ·rw[e,List.length_set]; exact ihj
      rw[h4,hi.st]; exact h3
     rw[z0d _ _ _ _ _ htl,if_pos rfl,h]
    ·exfalso
     have:=hi.one r k (by omega) (by omega) (by omega) (by omega) c;omega
   ·rw[z0h _ _ _ _ _ e]
    rcases ih with h | ⟨r,a,b⟩
    ·exact .inl h
    ·exact .inr ⟨r,by omega,b⟩
theorem z5t {C:RBx} {f:Fr} (hg:∀k,k<=C.waits.length->Inv { C.grantN f k with waits:=C.leftN f k++C.waits.drop k }) (t:Nat):∀k,k<=C.waits.length->(C.grantN f k).sta.getD t 0=C.sta.getD t 0+(C.servN f k).count t
 | 0,_=>rfl
 | k+1,hk=>by
  have ih:=z5t hg t k (by omega);have hi:=hg k (by omega);show ((C.grantN f k).grant f (C.waits.getD k 0)).sta.getD t 0=_+(if _ then _ else _:List Nat).count t;by_cases hb:(C.grantN f k).grantB f (C.waits.getD k 0)=true
  case neg=>
   have e:(C.grantN f k).grant f (C.waits.getD k 0)=C.grantN f k:=by unfold RBx.grant; rw[if_neg hb]
   rw[e,if_neg hb]; exact ih
  rw[if_pos hb,z4w hb];unfold RBx.more;have hm:C.waits.getD k 0∈C.leftN f k++C.waits.drop k:=by
   rw[z05 (by omega),List.drop_eq_getElem_cons (by omega)];exact List.mem_append_right _ (List.mem_cons_self ..)
  have htl:C.waits.getD k 0 < (C.grantN f k).sta.length:=by
   have h1:=(hi.wt _ hm).1;have h2:(C.grantN f k).sta.length=(C.grantN f k).L.tns.length:=hi.st;rw[h2]; exact h1
  rw[List.count_append];by_cases e:t=C.waits.getD k 0
  ·rw[<-e] at htl ⊢
   rw[z0d _ _ _ _ _ htl,if_pos rfl,ih,List.count_singleton_self];omega
  ·have e0:List.count t [C.waits.getD k 0]=0:=List.count_eq_zero.2 (fun h=>e (List.mem_singleton.1 h))
   rw[z0h _ _ _ _ _ e,ih,e0];omega
end Go.Proofs.YtkbpocecbcaiiabGreatDoor
namespace Go.Proofs.YtkbpocecbcaiiabGreatDoor
open Go.RowKit
end Go.Proofs.YtkbpocecbcaiiabGreatDoor
namespace Go.Proofs.YtkbpocecbcaiiabGreatDoor
open Go.RowKit
theorem flat_pts (sw:List Bool):∀(n:Nat) (v:Nat->Nat),(List.range sw.length).flatMap (fun i=>if sw.getD i false then [v (n+i)] else [])=(z03 n sw).map v:=by
 induction sw with
 | nil=>intro n v; rfl
 | cons b l ih=>
  intro n v;rw[List.length_cons,List.range_succ_eq_map,List.flatMap_cons,List.flatMap_map];have e:(List.range l.length).flatMap (fun a=>if (b :: l).getD (a+1) false then [v (n+(a+1))] else [])=(z03 (n+1) l).map v:=by
   rw[<-ih (n+1) v]
   congr 1
   funext a
   have:n+(a+1)=n+1+a:=by omega
   rw[this]; rfl
  have e':(List.range l.length).flatMap (fun a=>if (b :: l).getD (Nat.succ a) false then [v (n+Nat.succ a)] else [])=(z03 (n+1) l).map v:=e;rw[e'];cases b with
  | true=>
   have e2:z03 n (true :: l)=n :: z03 (n+1) l:=by rw[z03,if_pos rfl]
   rw[e2]; rfl
  | false=>
   have e2:z03 n (false :: l)=z03 (n+1) l:=by rw[z03,if_neg (by simp)]
   rw[e2]; rfl
theorem mo_text (C:RBx) (f:Fr):C.movesT f=(z03 0 C.L.sw).map (C.moveF f):=by
 rw[<-flat_pts];unfold RBx.movesT RBx.moveT;simp only[Nat.zero_add]
theorem pts_sw {L:Lay} {x:Nat} (h:x∈z03 0 L.sw):L.sw.getD x false=true:=by
 have:=((pts_mem L.sw 0 x).1 h).2;rw[Nat.sub_zero] at this;exact this
theorem mo_pk {C:RBx} {s:ByteArray} (hW:WantOK (C.s4 (C.L.frOf s))) (hL:(C.s4 (C.L.frOf s)).L=C.L) {k:Nat} (hk:k < (z03 0 C.L.sw).length):pk (moS C s) k=(C.s4 (C.L.frOf s)).moveF (C.L.frOf s) (z03 0 C.L.sw)[k]:=by
 unfold moS;have hs:∀x,x∈(C.s4 (C.L.frOf s)).movesT (C.L.frOf s)->x < 256:=by
  intro x hx;rw[mo_text] at hx;obtain⟨y,hy,rfl⟩:=List.mem_map.1 hx;have:=hW y (pts_sw hy);unfold RBx.moveF;split <;> omega
 rw[z2j hs,mo_text];rw[hL,z05 (by simpa using hk),List.getElem_map]
theorem at_pk {C:RBx} (hi:Inv C) {t:Nat} (ht:t < C.L.tns.length):pk (atS C) t=48+C.sta.getD t 0:=by
 unfold atS;rw[z2j (fun x hx=>by
  obtain⟨y,hy,rfl⟩:=List.mem_map.1 hx;have:=hi.sta8 y hy;omega)]
 have ht':t < C.sta.length:=by rw[hi.st]; exact ht
 unfold RBx.stateT;rw[z05 (by simpa using ht'),z05 ht',List.getElem_map]
end Go.Proofs.YtkbpocecbcaiiabGreatDoor
namespace Go.Proofs.YtkbpocecbcaiiabGreatDoor
open Go.RowKit
end Go.Proofs.YtkbpocecbcaiiabGreatDoor
namespace Go.Proofs.YtkbpocecbcaiiabGreatDoor
open Go.RowKit
end Go.Proofs.YtkbpocecbcaiiabGreatDoor
namespace Go.Proofs.YtkbpocecbcaiiabGreatDoor
open Go.RowKit
end Go.Proofs.YtkbpocecbcaiiabGreatDoor
namespace Go.Proofs.YtkbpocecbcaiiabGreatDoor
end Go.Proofs.YtkbpocecbcaiiabGreatDoor
namespace Go.Proofs.YtkbpocecbcaiiabGreatDoor
open Go.RowKit
end Go.Proofs.YtkbpocecbcaiiabGreatDoor
namespace Go.Proofs.YtkbpocecbcaiiabGreatDoor
open Go.RowKit
theorem z5a (C:RBx) (f:Fr):∀k,((C.grantN f k).sta=C.sta/\C.servN f k=[])\/C.L.sound (C.grantN f k).sta=true
 | 0=>.inl ⟨rfl,rfl⟩
 | k+1=>by
  have ih:=z5a C f k;have hL:=grantN_L C f k;show (((C.grantN f k).grant f (C.waits.getD k 0)).sta=C.sta/\(if _ then _ else _:List Nat)=[])\/C.L.sound ((C.grantN f k).grant f (C.waits.getD k 0)).sta=true;by_cases hb:(C.grantN f k).grantB f (C.waits.getD k 0)=true
  ·right
   rw[z4w hb,<-hL];unfold RBx.grantB at hb;simp only[Bool.and_eq_true] at hb;exact hb.2
  ·have e:(C.grantN f k).grant f (C.waits.getD k 0)=C.grantN f k:=by unfold RBx.grant; rw[if_neg hb]
   rw[e,if_neg hb];exact ih
theorem list_ext0 {a b:List Nat} (hl:a.length=b.length) (h:∀t,t < b.length->a.getD t 0=b.getD t 0):a=b:=by
 apply List.ext_getElem hl;intro i h1 h2;have:=h i h2;rw[z05 h1,z05 h2] at this;exact this
theorem z4h {L:Lay} {t:Nat} (ht:t < L.tns.length):(L.tns.map (·.jny))[t]'(by simpa using ht)=(L.tn t).jny:=by
 rw[List.getElem_map];unfold Lay.tn;rw[z05 ht]
end Go.Proofs.YtkbpocecbcaiiabGreatDoor
namespace Go.Proofs.YtkbpocecbcaiiabGreatDoor
open Go.RowKit
end Go.Proofs.YtkbpocecbcaiiabGreatDoor
namespace Go.Proofs.YtkbpocecbcaiiabGreatDoor
open Go.RowKit
structure LayK (L:Lay):Prop where
 tn:L.tns.length<=100
 rt:L.rts.length<=100
 jl:∀t,t < L.tns.length->(L.tn t).jny.length<=1000
 jr:∀t,t < L.tns.length->∀q,q∈(L.tn t).jny->q < L.rts.length
 pn:∀r,r < L.rts.length->0 < (secs (L.rt r).path).length/\(secs (L.rt r).path).length<=1000
theorem lastN_secs (p:List (Nat×Nat)) (h:0 < (secs p).length):(secs p)[(secs p).length - 1]=lastN p:=by
 unfold lastN;have hl:(secs p).length=p.length:=z0o p;unfold secs at h ⊢;simp only[List.getElem_map,List.length_map];rw[List.length_map] at h
 first
  | (rw[List.getLastD_eq_getLast?,List.getLast?_eq_getElem?,List.getElem?_eq_getElem (by omega)]; rfl)
  | (rw[List.getLast?_eq_getElem?,List.getElem?_eq_getElem (by omega)]; rfl)
  | (rw[List.getD_eq_getElem?_getD,List.getElem?_eq_getElem (by omega)]; rfl)
theorem stand_at {L:Lay} {t:Nat} (ht:t < L.tns.length):(L.tns.map (·.start))[t]'(by simpa using ht)=(L.tn t).start:=by
 rw[List.getElem_map];unfold Lay.tn;rw[z05 ht]
end Go.Proofs.YtkbpocecbcaiiabGreatDoor
