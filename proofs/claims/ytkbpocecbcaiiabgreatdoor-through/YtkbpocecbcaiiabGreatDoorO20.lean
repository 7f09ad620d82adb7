import Derived.Test.YtkbpocecbcaiiabGreatDoorO19
namespace Go.Proofs.YtkbpocecbcaiiabGreatDoor
open Go.RowKit
def PBx.putR (B:PBx) (r:Nat) (x:PRt):PBx:={ B with rts:=B.rts.set r x }
theorem putR_self (B:PBx) (r:Nat) (h:r < B.rts.length):B.putR r B.rts[r]=B:=by
 unfold PBx.putR; rw[set_self]
theorem PM.setR {w:World} {R:Nat->Prop} {g:Nat} {B:PBx} {vs vr vt vw va vq:Value} {qs:List Q3} {gl n cap r:Nat} {y:PRt} (h:PM w R g (B.putR r y) vs vr vt (.slice (some ⟨gl,0,none⟩) n cap) vw va vq qs) (hn:n=B.rts.length) (hr:r < B.rts.length)
  (j:Nat) (hj:j < 9) (u:Value) (x:PRt) (hx:∀q,prtV x q=(prtV y q).set j u) (hxr:x.rt=y.rt) (hxm:x.marked=y.marked) :
  PM (w.setCell ⟨gl,r*9+j,none⟩ u) R g (B.putR r x) vs vr vt (.slice (some ⟨gl,0,none⟩) n cap) vw va vq qs:=by
 have:=h.setRt (by simpa [PBx.putR] using hn) r j (by simpa [PBx.putR] using hr) hj u x (by simpa [PBx.putR] using hx) (by simpa [PBx.putR] using hxr) (by simpa [PBx.putR] using hxm)
 simpa [PBx.putR] using this
theorem PM.setMk {w:World} {R:Nat->Prop} {g:Nat} {B:PBx} {vs vr vt vl vw va vq:Value} {qs:List Q3} {r:Nat} {y:PRt} (h:PM w R g (B.putR r y) vs vr vt vl vw va vq qs) (hr:r < B.rts.length) (hrq:r < qs.length)
  {gm cap:Nat} (hms:qs[r].2.2=.slice (some ⟨gm,0,none⟩) y.marked.length cap) (i:Nat) (x:Bool) :
  PM (w.setCell ⟨gm,i,none⟩ (.bool x)) R g (B.putR r { y with marked:=y.marked.set i x }) vs vr vt vl vw va vq qs:=by
 have hr':r < (B.putR r y).rts.length:=by simpa [PBx.putR] using hr
 have hy:(B.putR r y).rts[r]=y:=by simp[PBx.putR]
 have:=h.setM1 r hr' hrq (gm:=gm) (cap:=cap) (by rw[hy]; exact hms) i x;rw[hy] at this
 simpa [PBx.putR] using this
theorem PM.rAt {w:World} {R:Nat->Prop} {g:Nat} {B:PBx} {vs vr vt vw va vq:Value} {qs:List Q3} {gl n cap r:Nat} {y:PRt} (h:PM w R g (B.putR r y) vs vr vt (.slice (some ⟨gl,0,none⟩) n cap) vw va vq qs) (hn:n=B.rts.length) (hr:r < B.rts.length) (hrq:r < qs.length) :
  (∀j,j < 9->w.cell? ⟨gl,r*9+j,none⟩=(prtV y qs[r])[j]?)/\CPRt w y (prtV y qs[r])/\(∀j,w.frozen? ⟨gl,j,none⟩=false)/\gl < w.heap.size/\w.ownsRow 0 4 1 qs[r].2.2 y.marked.length (z17 y.marked):=by
 have hr':r < (B.putR r y).rts.length:=by simpa [PBx.putR] using hr
 have hy:(B.putR r y).rts[r]=y:=by simp[PBx.putR]
 obtain⟨h1,h2,h3⟩:=h.rtCells (by simpa [PBx.putR] using hn) hr' hrq;have h4:=h.marks r hrq hr';obtain⟨h5,h6⟩:=h.items w (fun _ _=>rfl) r hr' hrq;rw[hy] at h1 h4 h5 h6;exact⟨h1,⟨_,_,_,rfl,h5,h6,Bools.ofOwn h4 rfl⟩,h2,h3,h4⟩
def entM (m:List Bool) (k:Nat):List Bool:=(List.range m.length).map (fun i=>if i < k then i==0 else m.getD i false)
theorem entM_len (m:List Bool) (k:Nat):(entM m k).length=m.length:=by simp[entM]
theorem entM_zero (m:List Bool):entM m 0=m:=by
 apply List.ext_getElem
 ·simp[entM]
 ·intro i h1 h2
  simp only[entM,List.getElem_map,List.getElem_range,Nat.not_lt_zero,if_false];rw[z1f _ _ _ h2]
theorem entM_succ (m:List Bool) (k:Nat) (_hk:k < m.length):entM m (k+1)=(entM m k).set k (k==0):=by
 apply List.ext_getElem
 ·simp[entM]
 ·intro i h1 h2
  have h3:i < m.length:=by simpa [entM] using h1
  by_cases hi:k=i
  ·subst hi
   simp[entM]
  ·rw[List.getElem_set_ne hi]
   simp only[entM,List.getElem_map,List.getElem_range];by_cases h4:i < k
   ·rw[if_pos (by omega),if_pos h4]
   ·rw[if_neg (by omega),if_neg h4]
def PRt.enter (y:PRt):PRt:={ y with ph:=116,marked:=entM y.marked y.marked.length }
set_option maxRecDepth 100000 in
set_option maxHeartbeats 2000000 in
theorem enter_any (R:Nat->Prop) (g:Nat) (B:PBx) (vs vr vt vw va vq:Value) (qs:List Q3) (gl n cl r:Nat) (y:PRt) (w:World) (h:PM w R g (B.putR r y) vs vr vt (.slice (some ⟨gl,0,none⟩) n cl) vw va vq qs) (hn:n=B.rts.length) (hr:r < B.rts.length) (hrq:r < qs.length) (hml:y.marked.length<=1000) :
  Calls Tryz.prog 148 #[.pointer (some ⟨gl,r*9,none⟩)] w fun e w'=>e=.returned (.tuple #[])/\PM w' R g (B.putR r y.enter) vs vr vt (.slice (some ⟨gl,0,none⟩) n cl) vw va vq qs/\Only (fun b=>b=gl\/qs[r].2.2.ownBlock=some b) w w':=by
 obtain⟨hc,-,hz,hgl,hrow⟩:=h.rAt hn hr hrq;have c3:=hc 3 (by omega);have c7:=hc 7 (by omega);have f3:=hz (r*9+3);simp[prtV] at c3 c7;have h1:=h.setR hn hr 3 (by omega) (.int .u8 116) { y with ph:=116 } (fun q=>rfl) rfl rfl;obtain⟨hc',-,-,-,-⟩:=h1.rAt hn hr hrq;have d7:=hc' 7 (by omega);simp[prtV] at d7;obtain⟨am,cm,hvm⟩:=z02 hrow;have hO1:Only (fun b=>b=gl\/qs[r].2.2.ownBlock=some b) w (w.setCell ⟨gl,r*9+3,none⟩ (.int .u8 116)):=Only.setCell (Or.inl rfl) _;have H1:=zh (And.intro h1 hO1);have HN:=zh hn;obtain⟨m,hm⟩:∃m,m=y.marked.length:=⟨_,rfl⟩
 rw[hvm,<-hm] at c7 d7;have HM:=zh hm;have HV:=zh hvm;have hgl1:gl < (w.setCell ⟨gl,r*9+3,none⟩ (.int .u8 116)).heap.size:=by simpa [World.setCell] using hgl
 clear h h1 hc hc' hz hrow hn hO1 hm hvm;have hml1:m<=1000:=by rw[uh HM]; exact hml
 clear hml;go_enter Tryz.func148,Tryz.ntmps148
 go_wp2
 go_loopw [11] (fun i wr=>∃k:Nat,i=.int .i64 k/\k<=m/\PM wr R g (B.putR r { y with ph:=116,marked:=entM y.marked k }) vs vr vt (.slice (some ⟨gl,0,none⟩) n cl) vw va vq qs/\Only (fun b=>b=gl\/qs[r].2.2.ownBlock=some b) w wr) (fun i _=>m - (intOf i).toNat)
 case atStart=>exact⟨0,rfl,Nat.zero_le _,by rw[entM_zero]; exact(uh H1).1,(uh H1).2⟩
 case round=>
  clear H1 c3 c7 d7 f3 hgl1;obtain⟨k,rfl,hk,hM,hO⟩:=hrel;obtain⟨hc,-,hz,hglr,hrow⟩:=hM.rAt (uh HN) hr hrq;have c7:=hc 7 (by omega);simp[prtV] at c7;have hml:(entM y.marked k).length=m:=by rw[entM_len]; exact(uh HM).symm
  have e7:=uh HV;rw[<-uh HM] at e7;rw[e7] at c7;simp only at hrow;rw[e7,hml] at hrow;have HMM:=zh hM;have HO:=zh hO;clear hc hM hO;by_cases hlt:k < m
  ·obtain⟨gm,cm',hgm,hm1,hm2,hgmw⟩:=z2w hrow (by omega)
   simp only[Value.slice.injEq,true_and] at hgm;obtain⟨rfl,rfl⟩:=hgm;unfold maxLen at hm2;have xk:=hrow.cellAt k (by omega);have xk':∃b,wr.cell? ⟨gm,k,none⟩=some (.bool b):=by
    rw[xk];have:k < (entM y.marked k).length:=by omega
    exact⟨(entM y.marked k)[k],by simp[z17,this]⟩
   obtain⟨b0,xk2⟩:=xk';have fk:=hrow.frozenAt k;have l1:(k:Int) < m:=by omega
   have l0:(0:Int)<=k:=by omega
   have HE:=zh (entM_succ y.marked k (by rw[<-uh HM]; exact hlt));have HML:=zh hml;have HE7:=zh e7;have hbb:((k:Int)==0)=(k==0):=by rw[Bool.eq_iff_iff]; simp
   obtain⟨bk,hbk⟩:∃b,(k==0)=b:=⟨_,rfl⟩
   rw[hbk] at hbb HE;clear hrow xk hml e7 hbk;go_wp2
   refine⟨⟨k+1,by go_num,by omega,?_,?_⟩,by simp[intOf]; omega⟩
   ·rw[uh HE]
    have:=(uh HMM).setMk hr hrq (gm:=gm) (cap:=cm) (by rw[uh HE7,uh HML]) k bk;exact this
   ·exact(uh HO).trans (Only.setCell (a:=⟨gm,k,none⟩) (Or.inr (by rw[uh HE7]; rfl)) _)
  ·obtain rfl:k=m:=by omega
   have l1:¬(k:Int) < k:=by omega
   clear hrow hml e7;go_wp2
   refine bodyPost_end (v:=.tuple #[]) (by simp[results,Tryz.results148,go_sem]) rfl ?_;refine⟨rfl,?_,uh HO⟩;unfold PRt.enter;rw[<-uh HM];exact uh HMM
def PRt.mkB (y:PRt) (f:PFr) (i:Nat):Bool:=y.marked.getD i false||f.occ.getD (y.secAt i) false
def PRt.mkN (y:PRt) (f:PFr) (k:Nat):List Bool:=(List.range y.marked.length).map (fun i=>if i < k then y.mkB f i else y.marked.getD i false)
theorem mkN_len (y:PRt) (f:PFr) (k:Nat):(y.mkN f k).length=y.marked.length:=by simp[PRt.mkN]
theorem mkN_zero (y:PRt) (f:PFr):y.mkN f 0=y.marked:=by
 apply List.ext_getElem
 ·simp[PRt.mkN]
 ·intro i h1 h2
  simp only[PRt.mkN,List.getElem_map,List.getElem_range,Nat.not_lt_zero,if_false];rw[z1f _ _ _ h2]
theorem mkN_succ (y:PRt) (f:PFr) (k:Nat) (_hk:k < y.marked.length):y.mkN f (k+1)=if f.occ.getD (y.secAt k) false then (y.mkN f k).set k true else y.mkN f k:=by
 have key:∀i (h:i < y.marked.length),k≠i->(y.mkN f (k+1))[i]'(by rw[mkN_len]; exact h)=(y.mkN f k)[i]'(by rw[mkN_len]; exact h):=by
  intro i h hi;simp only[PRt.mkN,List.getElem_map,List.getElem_range];by_cases h4:i < k
  ·rw[if_pos (by omega),if_pos h4]
  ·rw[if_neg (by omega),if_neg h4]
 cases ho:f.occ.getD (y.secAt k) false with
 | true=>
  rw[if_pos rfl];apply List.ext_getElem
  ·simp[PRt.mkN]
  ·intro i h1 h2
   by_cases hi:k=i
   ·subst hi
    rw[List.getElem_set_self];simp only[PRt.mkN,List.getElem_map,List.getElem_range,PRt.mkB,ho];rw[if_pos (by omega),Bool.or_true]
   ·rw[List.getElem_set_ne hi]
    exact key i (by rw[mkN_len] at h1; exact h1) hi
 | false=>
  rw[if_neg (by simp)];apply List.ext_getElem
  ·simp[PRt.mkN]
  ·intro i h1 h2
   by_cases hi:k=i
   ·subst hi
    simp only[PRt.mkN,List.getElem_map,List.getElem_range,PRt.mkB,ho];rw[if_pos (by omega),if_neg (by omega),Bool.or_false]
   ·exact key i (by rw[mkN_len] at h1; exact h1) hi
def PRt.mark (y:PRt) (f:PFr):PRt:={ y with marked:=y.mkN f y.marked.length }
theorem secAt_mk (y:PRt) (m:List Bool) (i:Int):PRt.secAt { y with marked:=m } i=y.secAt i:=rfl
set_option maxRecDepth 100000 in
set_option maxHeartbeats 4000000 in
theorem markOccupied_any (R P:Nat->Prop) (g:Nat) (B:PBx) (vs vr vt vw va vq:Value) (qs:List Q3) (gl n cl r:Nat) (y:PRt) (vfr:Value) (f:PFr) (w:World) (h:PM w R g (B.putR r y) vs vr vt (.slice (some ⟨gl,0,none⟩) n cl) vw va vq qs) (hf:FrPIn P w vfr f) (hn:n=B.rts.length) (hr:r < B.rts.length) (hrq:r < qs.length)
  (hP:∀b,P b->qs[r].2.2.ownBlock≠some b) (hml:y.marked.length<=1000) :
  Calls Tryz.prog 149 #[.pointer (some ⟨gl,r*9,none⟩),vfr] w fun e w'=>e=.returned (.tuple #[])/\PM w' R g (B.putR r (y.mark f)) vs vr vt (.slice (some ⟨gl,0,none⟩) n cl) vw va vq qs/\FrPIn P w' vfr f/\Only (fun b=>qs[r].2.2.ownBlock=some b) w w':=by
 obtain⟨vc,vo,vp,rfl,hc1,ho1,hp1⟩:=hf.at;obtain⟨ac,cc,rfl,-⟩:=SlAt.open hc1;obtain⟨ao,co,rfl,-⟩:=SlAt.open ho1;obtain⟨ap,cp,rfl,-⟩:=SlAt.open hp1;obtain⟨hc,-,hz,hgl,hrow⟩:=h.rAt hn hr hrq;have c7:=hc 7 (by omega);simp[prtV] at c7;obtain⟨am,cm,hvm⟩:=z02 hrow;have HN:=zh hn;obtain⟨m,hm⟩:∃m,m=y.marked.length:=⟨_,rfl⟩
 rw[hvm,<-hm] at c7;have HM:=zh hm;have HV:=zh hvm;have HP:=zh hP;have HW0:=zh (z01 w (z0r (.slice ac f.cmds.length cc) (.slice ao f.occ.length co) (.slice ap f.rep.length cp)));have HS0:=zh (And.intro h (And.intro hf (heap_alloc_new w (z0r (.slice ac f.cmds.length cc) (.slice ao f.occ.length co) (.slice ap f.rep.length cp)))));have hml1:m<=1000:=by rw[hm]; exact hml
 clear h hc hz hrow hn hm hvm hf hc1 ho1 hp1 hP hml;go_enter Tryz.func149,Tryz.ntmps149
 go_wp2
 go_loopw [10] (fun i wr=>∃k:Nat,i=.int .i64 k/\k<=m/\PM wr R g (B.putR r { y with marked:=y.mkN f k }) vs vr vt (.slice (some ⟨gl,0,none⟩) n cl) vw va vq qs/\FrPIn P wr (.agg #[.slice ac f.cmds.length cc,.slice ao f.occ.length co,.slice ap f.rep.length cp]) f ∧
   Only (fun b=>qs[r].2.2.ownBlock=some b) w wr/\wr.heap[w.heap.size]?=some (z0r (.slice ac f.cmds.length cc) (.slice ao f.occ.length co) (.slice ap f.rep.length cp))) (fun i _=>m - (intOf i).toNat)
 case atStart=>exact⟨0,rfl,Nat.zero_le _,by rw[mkN_zero]; exact(uh HS0).1.below (uh HW0),(uh HS0).2.1.below (uh HW0),Only.of_below (uh HW0),(uh HS0).2.2⟩
 case round=>
  clear HS0 HW0 c7;obtain⟨k,rfl,hk,hM,hFr,hO,hfb⟩:=hrel;obtain⟨hc,hC,hz,hglr,hrow⟩:=hM.rAt (uh HN) hr hrq;have HSA:=zh (fun (wz:World) (hz:Below wr.heap.size wr wz)=>z3z gl (r*9) _ _ (k:Int) wz (fun j hj=>by rw[hz.cell (p:=⟨gl,_,none⟩) hglr]; exact hc j hj) (hC.keep (Keeps.below hz) (Keeps.below hz)));have HOC:=zh (fun (s:Nat) (wz:World) (hz:Below wr.heap.size wr wz)=>occ_any _ f s wz (hFr.at.below hz));simp only[secAt_mk] at HSA;have c7:=hc 7 (by omega);simp[prtV] at c7;have hml:(y.mkN f k).length=m:=by rw[mkN_len]; exact(uh HM).symm
  have e7:=uh HV;rw[<-uh HM] at e7;rw[e7] at c7;simp only at hrow;rw[e7,hml] at hrow;obtain⟨⟨y0,y1,y2⟩,-,qf⟩:=tri0 hfb;have HMM:=zh hM;have HO:=zh hO;have HFr:=zh hFr;have HFB:=zh hfb;have hwz:w.heap.size < wr.heap.size:=z0g hfb;clear hc hC hM hO hFr hfb hz;by_cases hlt:k < m
  ·obtain⟨gm,cm',hgm,hm1,hm2,hgmw⟩:=z2w hrow (by omega)
   simp only[Value.slice.injEq,true_and] at hgm;obtain⟨rfl,rfl⟩:=hgm;unfold maxLen at hm2;have xk:=hrow.cellAt k (by omega);have xk':∃b,wr.cell? ⟨gm,k,none⟩=some (.bool b):=by
    rw[xk];have:k < (y.mkN f k).length:=by omega
    exact⟨(y.mkN f k)[k],by simp[z17,this]⟩
   obtain⟨b0,xk2⟩:=xk';have fk:=hrow.frozenAt k;have l1:(k:Int) < m:=by omega
   have l0:(0:Int)<=k:=by omega
   have HE:=zh (mkN_succ y f k (by rw[<-uh HM]; exact hlt));have HML:=zh hml;have HE7:=zh e7;have HNG:=zh (show w.heap.size≠gm by
    intro e;have hT1:=z2f hrow (k:=gm) rfl;rw[<-e] at hT1;obtain⟨c5,f5,h5⟩:=hT1;rw[uh HFB] at h5;simp[z0r] at h5)
   have HX:=zh (And.intro c7 (And.intro xk2 (And.intro fk (And.intro hglr hgmw))));clear hrow xk hml e7 c7 xk2 fk;obtain⟨s,hs⟩:∃s,y.secAt (k:Int)=s:=⟨_,rfl⟩
   rw[hs] at HSA HE;clear hs;obtain⟨bo,hbo⟩:∃b,f.occ.getD s false=b:=⟨_,rfl⟩
   have HOS:=zh (uh HOC s);rw[hbo] at HE HOS;clear hbo;go_wp2
   go_cut [17] from 11 to 24 (fun v wx=>v=.bool bo/\Below wr.heap.size wr wx)
   case first=>
    go_region_with (first
     | (go_at_call 147; refine(uh HSA _ ?_).mono ?_; (first | exact(Below.refl _ _) | exact(Below.refl _ _).drew | exact(below_drewN (Below.refl _ _) _)); rintro e w1 ⟨rfl,hw1⟩; subst hw1)
     | (go_at_call 120; refine(uh HOS _ ?_).mono ?_; (first | exact(Below.refl _ _) | exact(Below.refl _ _).drew | exact(Below.refl _ _).drew.drew | exact(below_drewN (Below.refl _ _) _)); rintro e w2 ⟨rfl,hb2⟩))
    all_goals
     go_wp2_with fail
     go_meet
     exact⟨rfl,by first | exact hb2 | exact(Below.refl wr.heap.size wr).drew.trans hb2 | exact(Below.refl wr.heap.size wr).drew.drew.trans hb2⟩
   case rest=>
    obtain⟨rfl,hbc⟩:=hcut;obtain⟨c7,xk2,fk,g1,g2⟩:=uh HX;rw[<-hbc.cell (p:=⟨gl,_,none⟩) g1] at c7;rw[<-hbc.cell (p:=⟨gm,_,none⟩) g2] at xk2;rw[<-hbc.frozen (p:=⟨gm,_,none⟩) g2] at fk;have HBC:=zh hbc;have hfc:=(hbc.block _ hwz).trans (uh HFB);have HFC:=zh hfc;clear hbc hfc y0 y1 y2;cases bo with
    | false=>
     have HE2:=zh (show y.mkN f (k+1)=y.mkN f k from uh HE);clear c7 xk2 fk;go_wp2
     exact⟨⟨k+1,by go_num,by omega,by rw[uh HE2]; exact(uh HMM).below (uh HBC),(uh HFr).below (uh HBC),(uh HO).trans (Only.of_below (uh HBC)),uh HFC⟩,by simp[intOf]; omega⟩
    | true=>
     have HE2:=zh (show y.mkN f (k+1)=(y.mkN f k).set k true from uh HE);have hO2:∀W,Only (fun b=>qs[r].2.2.ownBlock=some b) W (W.setCell ⟨gm,k,none⟩ (.bool true)):=fun W=>Only.setCell (a:=⟨gm,k,none⟩) (by rw[uh HE7]; rfl) _;have HO2:=zh hO2;clear hO2;go_wp2
     refine⟨⟨k+1,by go_num,by omega,?_,((uh HFr).below (uh HBC)).only (uh HO2 _) (fun b hb=>uh HP b hb),(uh HO).trans ((Only.of_below (uh HBC)).trans (uh HO2 _)),?_⟩,by simp[intOf]; omega⟩
     ·rw[uh HE2]
      have:=((uh HMM).below (uh HBC)).setMk hr hrq (gm:=gm) (cap:=cm) (by rw[uh HE7,uh HML]) k true;exact this
     ·rw[Below.heap_setCell _ _ _ _ (uh HNG)]
      exact uh HFC
  ·obtain rfl:k=m:=by omega
   have l1:¬(k:Int) < k:=by omega
   clear hrow hml e7;go_wp2
   refine bodyPost_end (v:=.tuple #[]) (by simp[results,Tryz.results149,go_sem]) rfl ?_;refine⟨rfl,?_,uh HFr,uh HO⟩;unfold PRt.mark;rw[<-uh HM];exact uh HMM
def PRt.relB (y:PRt) (f:PFr):Bool:=
 if y.marked.getD y.freed false then (if y.freed+1=y.rt.path.length then !f.occ.getD (y.secAt ((y.freed:Int) - 1)) false else !f.occ.getD (y.secAt y.freed) false&&y.marked.getD (y.freed+1) false) else false
end Go.Proofs.YtkbpocecbcaiiabGreatDoor
