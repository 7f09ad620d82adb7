import Derived.Test.YtkbpocecbcaiiabGreatDoorO38
namespace Go.Proofs.YtkbpocecbcaiiabGreatDoor
open Go.RowKit
def PBx.grantN (B:PBx) (f:PFr):Nat->PBx
 | 0=>B
 | k+1=>(B.grantN f k).grant f (B.waits.getD k 0)
def PBx.servN (B:PBx) (f:PFr):Nat->List Nat
 | 0=>[]
 | k+1=>if (B.grantN f k).grantB f (B.waits.getD k 0) then B.servN f k++[B.waits.getD k 0] else B.servN f k
def PBx.leftN (B:PBx) (f:PFr):Nat->List Nat
 | 0=>[]
 | k+1=>if (B.grantN f k).grantB f (B.waits.getD k 0) then B.leftN f k else B.leftN f k++[B.waits.getD k 0]
def PBx.grants (B:PBx) (f:PFr):PBx:={ B.grantN f B.waits.length with waits:=B.leftN f B.waits.length }
theorem wantN_pres (B:PBx) (l:List (Nat×Nat)) (k:Nat):(B.wantN l k).L=B.L/\(B.wantN l k).rts=B.rts/\(B.wantN l k).sta=B.sta/\(B.wantN l k).waits=B.waits/\(B.wantN l k).sws.length=B.sws.length:=by
 induction k with
 | zero=>exact⟨rfl,rfl,rfl,rfl,rfl⟩
 | succ k ih=>
  have h:∀(C:PBx) (x:Nat×Nat),(C.want1 x).L=C.L/\(C.want1 x).rts=C.rts/\(C.want1 x).sta=C.sta/\(C.want1 x).waits=C.waits/\(C.want1 x).sws.length=C.sws.length:=by
   intro C x; unfold PBx.want1; split <;> simp[PBx.putS]
  obtain⟨a,b,c,d,e⟩:=h (B.wantN l k) (l.getD k (0,0));exact⟨a.trans ih.1,b.trans ih.2.1,c.trans ih.2.2.1,d.trans ih.2.2.2.1,e.trans ih.2.2.2.2⟩
theorem given_pres (B:PBx) (r t:Nat):(B.given r t).L=B.L/\(B.given r t).rts=B.rts.set r ((B.route r).set t)/\(B.given r t).sta=oneM B.sta t/\(B.given r t).waits=B.waits/\(B.given r t).sws.length=B.sws.length:=by
 unfold PBx.given;obtain⟨a,b,c,d,e⟩:=wantN_pres ({ B with sta:=oneM B.sta t }.putR r ((B.route r).set t)) (swsOf (B.route r).rt) (swsOf (B.route r).rt).length;exact⟨a,b,c,d,e⟩
theorem grant_cases (B:PBx) (f:PFr) (t:Nat):(B.grantB f t=false/\B.grant f t=B)\/∃r,B.nextR t=some r/\r < B.rts.length/\B.grantR f r t=true/\B.grantB f t=true/\B.grant f t=B.given r t:=by
 unfold PBx.grantB PBx.grant;cases hn:B.nextR t with
 | none=>exact Or.inl ⟨rfl,rfl⟩
 | some r=>
  cases hb:(decide (r < B.rts.length)&&B.grantR f r t) with
  | false=>exact Or.inl ⟨by simp[hb],by simp[hb]⟩
  | true=>
   have h1:r < B.rts.length:=by
    have:=hb;simp at this; exact this.1
   have h2:B.grantR f r t=true:=by
    have:=hb;simp at this; exact this.2
   exact Or.inr ⟨r,rfl,h1,h2,by simp[h1,h2],by simp[h1,h2]⟩
theorem grant_waits (B:PBx) (f:PFr) (t:Nat):(B.grant f t).waits=B.waits:=by
 rcases grant_cases B f t with h | ⟨r,-,-,-,-,h⟩
 ·rw[h.2]
 ·rw[h]; exact(given_pres B r t).2.2.2.1
theorem nextR_lt {B:PBx} {t r:Nat} (h:B.nextR t=some r):t < B.L.tns.length/\t < B.sta.length/\B.sta.getD t 0 < (B.L.tn t).jny.length/\(B.L.tn t).jny[B.sta.getD t 0]?=some r:=by
 unfold PBx.nextR at h;split at h
 ·rename_i hc
  refine⟨hc.1,hc.2,?_,h⟩;apply Classical.byContradiction;intro hn;rw[List.getElem?_eq_none (by omega)] at h; cases h
 ·cases h
theorem PGd.grant {B:PBx} (h:PGd B) (f:PFr) (t:Nat):PGd (B.grant f t):=by
 rcases grant_cases B f t with hc | ⟨r,hn,hr,-,-,hc⟩
 ·rw[hc.2]; exact h
 ·rw[hc]
  obtain⟨a,b,c,d,e⟩:=given_pres B r t;obtain⟨n1,n2,n3,-⟩:=nextR_lt hn;have hj:(B.L.tn t).jny.length<=8:=by rw[tn_eq _ _ n1]; exact h.good.jl _ (List.getElem_mem n1)
  refine⟨by rw[a]; exact h.good,by rw[b]; simpa using h.rl,?_,by rw[a,c]; simpa [oneM] using h.sl,?_⟩
  ·rw[b]
   intro y hy;rcases List.mem_or_eq_of_mem_set hy with h1 | h1
   ·exact h.ok y h1
   ·subst h1
    have hrt:B.route r=B.rts[r]:=z1f _ _ _ hr;rw[hrt];have ho:=h.ok _ (List.getElem_mem hr);exact⟨ho.path,ho.flank,by simpa [PRt.set] using ho.path,Nat.zero_le _,ho.count⟩
  ·rw[c]
   intro x hx;rcases List.mem_or_eq_of_mem_set hx with h1 | h1
   ·exact h.s9 x h1
   ·omega
theorem grantN_pres {B:PBx} (h:PGd B) (f:PFr) (k:Nat):PGd (B.grantN f k)/\(B.grantN f k).waits=B.waits:=by
 induction k with
 | zero=>exact⟨h,rfl⟩
 | succ k ih=>exact⟨ih.1.grant f _,(grant_waits _ _ _).trans ih.2⟩
theorem servN_len (B:PBx) (f:PFr) (k:Nat):(B.servN f k).length<=k:=by
 induction k with
 | zero=>exact Nat.le_refl _
 | succ k ih=>
  unfold PBx.servN;split
  ·simp; omega
  ·omega
theorem leftN_len (B:PBx) (f:PFr) (k:Nat):(B.leftN f k).length<=k:=by
 induction k with
 | zero=>exact Nat.le_refl _
 | succ k ih=>
  unfold PBx.leftN;split
  ·omega
  ·simp; omega
structure BesideQ (w wr:World) (D D' P:Nat->Prop) (g:Nat) (B:PBx) (vfr:Value) (f:PFr) (vq:Value) (o:Obj):Prop where
 boxq:BoxQ wr D' P g B vfr f vq
 from_:∀b,D' b->D b\/w.heap.size < b
 only:Only D w wr
 fr:wr.heap[w.heap.size]?=some o
theorem BesideQ.op {w wr w2:World} {D D' P:Nat->Prop} {g:Nat} {B B':PBx} {vfr:Value} {f:PFr} {vq:Value} {o:Obj} (h:BesideQ w wr D D' P g B vfr f vq o) (hD:∀b,D b->b < w.heap.size) (hb:BoxQ w2 (grow D' wr w2) P g B' vfr f vq) (ho:Only D' wr w2):BesideQ w w2 D (grow D' wr w2) P g B' vfr f vq o:=by
 have hlt:=z0g h.fr;refine⟨hb,fun b hb=>?_,h.only.far ho (fun i hi hd=>?_),?_⟩
 ·rcases hb with hb | hb
  ·exact h.from_ b hb
  ·exact Or.inr (by omega)
 ·rcases h.from_ i hd with h1 | h1
  ·exact h1
  ·omega
 ·rw[ho.block _ hlt (fun hd=>by
   rcases h.from_ _ hd with h1 | h1
   ·have:=hD _ h1; omega
   ·omega)]
  exact h.fr
theorem BesideQ.grown {w wr w2:World} {D D' P:Nat->Prop} {g:Nat} {B:PBx} {vfr:Value} {f:PFr} {vq:Value} {o o2:Obj} {row:Option Nat} (h:BesideQ w wr D D' P g B vfr f vq o) (hg:(wr.alloc o2).grownBy w2 row) (hrow:∀b,row=some b->¬D' b/\w.heap.size < b/\¬P b):BesideQ w w2 D D' P g B vfr f vq o:=by
 have ho:=only_grown hg;refine⟨⟨h.boxq.box.only ho (fun k hk e=>(hrow k e).1 hk),h.boxq.frame.only ho (fun k hk e=>(hrow k e).2.2 hk),h.boxq.apart⟩,h.from_,h.only.far ho (fun i hi e=>by have:=(hrow i e).2.1; omega),?_⟩;rw[ho.block _ (z0g h.fr) (fun e=>by have:=(hrow _ e).2.1; omega)];exact h.fr
def GrantP (w:World) (D P:Nat->Prop) (g:Nat) (B:PBx) (vfr:Value) (f:PFr) (sv:List Nat) (v:Value) (w':World):Prop:=
 ∃D' o,Beside w w' D D' P g B vfr f o/\w'.ownsRow (w.heap.size+1) 3 1 v sv.length (intsV sv)/\∀b,v.ownBlock=some b->¬D' b
theorem two_rows {w w1 w4:World} {D' P:Nat->Prop} {o:Obj} {va vb:Value} {na nb g4 c4 m:Nat} {xa xb:List Value} (hP:∀b,P b->b < w.heap.size) (hD':∀b,D' b->b < w1.heap.size)
  (ha:w1.ownsRow (w.heap.size+1) 3 1 va na xa) (hb:w1.ownsRow (w.heap.size+1) 3 1 vb nb xb) (hna:∀b,va.ownBlock=some b->¬D' b) (_hnb:∀b,vb.ownBlock=some b->¬D' b) (hab:∀b,va.ownBlock=some b->vb.ownBlock≠some b)
  (hg:(w1.alloc o).grownBy w4 va.ownBlock) (hat:va.ownBlock=some g4\/g4=w1.heap.size+1) :
  (∀b,va.ownBlock=some b->¬D' b/\w.heap.size < b/\¬P b)/\w4.ownsRow (w.heap.size+1) 3 1 vb nb xb/\(∀b,(Value.slice (some ⟨g4,0,none⟩) m c4).ownBlock=some b->¬D' b)/\(∀b,(Value.slice (some ⟨g4,0,none⟩) m c4).ownBlock=some b->vb.ownBlock≠some b):=by
 have h1:∀b,va.ownBlock=some b->¬D' b/\w.heap.size < b/\¬P b:=fun b h=>by
  have:=ha.lt b h;exact⟨hna b h,by omega,fun hp=>by have:=hP b hp; omega⟩
 refine⟨h1,?_,?_,?_⟩
 ·refine(hb.alloc o).kept hg ?_
  cases hv:vb.ownBlock with
  | none=>exact .inl rfl
  | some b=>exact .inr (fun e=>hab b e.symm hv)
 ·intro b h
  have e:g4=b:=by simpa [Value.ownBlock] using h
  subst e;rcases hat with h2 | h2
  ·exact hna g4 h2
  ·intro hd; have:=hD' g4 hd; omega
 ·intro b h
  have e:g4=b:=by simpa [Value.ownBlock] using h
  subst e;rcases hat with h2 | h2
  ·exact hab g4 h2
  ·intro hv; have:=(hb.lt g4 hv).2; omega
set_option maxRecDepth 100000 in
set_option maxHeartbeats 8000000 in
theorem grantFromQueue_any (D P:Nat->Prop) (g:Nat) (B:PBx) (vfr:Value) (f:PFr) (w:World) (h:BoxF w D P g B vfr f) (hgd:PGd B) (hwl:B.waits.length<=1000) :
  Calls Tryz.prog 37 #[.pointer (some ⟨g,0,none⟩),vfr] w fun e w'=>∃v,e=.returned v/\GrantP w D P g (B.grants f) vfr f (B.servN f B.waits.length) v w':=by
 obtain⟨vq,hq⟩:=h.q;obtain⟨vc,vo,vp,rfl,hc1,ho1,hp1⟩:=h.frame.at;obtain⟨ac,cc,rfl,-⟩:=SlAt.open hc1;obtain⟨ao,co,rfl,-⟩:=SlAt.open ho1;obtain⟨ap,cp,rfl,-⟩:=SlAt.open hp1;have hb0:=z01 w (z0r (.slice ac f.cmds.length cc) (.slice ao f.occ.length co) (.slice ap f.rep.length cp));have HD:=zh h.box.lt;have HPL:=zh h.frame.1;have HS0:=zh (show BesideQ w (w.alloc (z0r (.slice ac f.cmds.length cc) (.slice ao f.occ.length co) (.slice ap f.rep.length cp))) D D P g B _ f vq (z0r (.slice ac f.cmds.length cc) (.slice ao f.occ.length co) (.slice ap f.rep.length cp)) from ⟨hq.below hb0,fun b hb=>Or.inl hb,Only.of_below hb0,heap_alloc_new _ _⟩);obtain⟨R0,vs0,vr0,vt0,vl0,vw0,va0,qs0,hM0,-⟩:=hq.box;obtain⟨⟨-,-,-,-,-,-,-,-,-,q9⟩,-,qg⟩:=box10 hM0.box;obtain⟨aq,cq,hvq⟩:=z02 hM0.waits;subst hvq;obtain⟨i0,hi0⟩:=info_parts Tryz.infoInt;have HIB:=zh hi0;obtain⟨n,hn⟩:∃n,n=B.waits.length:=⟨_,rfl⟩
 have HN:=zh hn;have HGD:=zh hgd;rw[<-hn] at hwl HS0 q9 ⊢;clear h hc1 ho1 hp1 hb0 hi0 hn hM0 hq hgd;go_enter Tryz.func37,Tryz.ntmps37
 go_wp2
 go_loopw [5,6,15] (fun d1 d2 i wr=>∃k:Nat,∃D',i=.int .i64 k/\k<=n/\BesideQ w wr D D' P g (B.grantN f k) (.agg #[.slice ac f.cmds.length cc,.slice ao f.occ.length co,.slice ap f.rep.length cp]) f (.slice aq n cq) (z0r (.slice ac f.cmds.length cc) (.slice ao f.occ.length co) (.slice ap f.rep.length cp)) ∧
   wr.ownsRow (w.heap.size+1) 3 1 d1 (B.servN f k).length (intsV (B.servN f k))/\wr.ownsRow (w.heap.size+1) 3 1 d2 (B.leftN f k).length (intsV (B.leftN f k))/\(∀b,d1.ownBlock=some b->¬D' b)/\(∀b,d2.ownBlock=some b->¬D' b)/\(∀b,d1.ownBlock=some b->d2.ownBlock≠some b)) (fun _ _ i _=>n - (intOf i).toNat)
 case atStart=>exact⟨0,D,rfl,Nat.zero_le _,uh HS0,World.ownsRow_nil _ _ _ _,World.ownsRow_nil _ _ _ _,fun b hb=>(by cases hb),fun b hb=>(by cases hb),fun b hb=>(by cases hb)⟩
 case round=>
  clear HS0 q9;obtain⟨k,D',rfl,hk,hS,ho1,ho2,hn1,hn2,h12⟩:=hrel;obtain⟨hgk,hwk⟩:=grantN_pres (uh HGD) f k;have hl1:=servN_len B f k;have hl2:=leftN_len B f k;obtain⟨⟨y0,y1,y2⟩,-,qf⟩:=tri0 hS.fr;have hos:=hS.only.size;obtain⟨a1,c1,hv1⟩:=z02 ho1;obtain⟨a2,c2,hv2⟩:=z02 ho2;subst hv1 hv2;by_cases hlt:k < n
  ·have hkB:k < B.waits.length:=by rw[<-uh HN]; exact hlt
   obtain⟨R1,vs1,vr1,vt1,vl1,vw1,va1,qs1,hM1,-⟩:=hS.boxq.box;have hrow:=hM1.waits;rw[hwk] at hrow;obtain⟨gq,cq',haq,hq1,hq2,hgq⟩:=z2w hrow (by omega);simp only[Value.slice.injEq] at haq;obtain⟨rfl,-,rfl⟩:=haq;unfold maxLen at hq2;rw[<-uh HN] at hrow hq1;have x0:wr.cell? ⟨gq,k,none⟩=some (.int .i64 (B.waits[k]:Nat)):=by
    rw[hrow.cellAt k (by omega)]; simp[intsV,hkB]
   have HGN:=zh (fun (t:Nat)=>grantNext_q D' P g (B.grantN f k) _ f _ t wr hS.boxq hgk);have l1:(k:Int) < n:=by omega
   have l0:(0:Int)<=k:=by omega
   have hgd0:B.waits.getD k 0=B.waits[k]:=z1f _ _ _ hkB;have HNX:=zh (And.intro (show B.grantN f (k+1)=(B.grantN f k).grant f B.waits[k] by rw[<-hgd0]; rfl) (And.intro (show B.servN f (k+1)=if (B.grantN f k).grantB f B.waits[k] then B.servN f k++[B.waits[k]] else B.servN f k by rw[<-hgd0]; rfl) (show B.leftN f (k+1)=if (B.grantN f k).grantB f B.waits[k] then B.leftN f k else B.leftN f k++[B.waits[k]] by rw[<-hgd0]; rfl)));have HR:=zh (And.intro ho1 (And.intro ho2 (And.intro hn1 (And.intro hn2 h12))));have HS:=zh hS;clear hM1 hrow hS ho1 ho2 hn1 hn2 h12 hgd0 hgk hwk;obtain⟨t,ht⟩:∃t,B.waits[k]=t:=⟨_,rfl⟩
   rw[ht] at x0 HNX;clear ht hkB;have HGT:=zh (uh HGN t);clear HGN;go_wp2_with fail
   refine(uh HGT).mono ?_;rintro e w1 ⟨rfl,hB1,hO1⟩;have hS1:=(uh HS).op (uh HD) hB1 hO1;obtain⟨r1,r2,r3,r4,r5⟩:=uh HR;have hz1:=hO1.size;have hc1:∀b,(Value.slice a1 (B.servN f k).length c1).ownBlock=some b->¬grow D' wr w1 b:=fun b hb hh=>by
    rcases hh with hh | hh
    ·exact r3 b hb hh
    ·have:=(r1.lt b hb).2; omega
   have hc2:∀b,(Value.slice a2 (B.leftN f k).length c2).ownBlock=some b->¬grow D' wr w1 b:=fun b hb hh=>by
    rcases hh with hh | hh
    ·exact r4 b hb hh
    ·have:=(r2.lt b hb).2; omega
   have ho1:=own_only r1 hO1 r3;have ho2:=own_only r2 hO1 r4;have HC:=zh (And.intro hc1 (And.intro hc2 r5));have HS1:=zh hS1;clear hB1 hO1 hS1 r1 r2 r3 r4 r5 hc1 hc2 x0 y0 y1 y2 HGT HR HS;obtain⟨m1,hm1⟩:∃m,(B.servN f k).length=m:=⟨_,rfl⟩
   obtain⟨m2,hm2⟩:∃m,(B.leftN f k).length=m:=⟨_,rfl⟩
   rw[hm1] at ho1 HC hl1 ⊢;rw[hm2] at ho2 HC hl2 ⊢;have HM:=zh (And.intro hm1 hm2);clear hm1 hm2;obtain⟨bg,hbg⟩:∃b,(B.grantN f k).grantB f t=b:=⟨_,rfl⟩
   rw[hbg] at HNX ⊢;clear hbg;cases bg with
   | true=>
    obtain⟨e1,e2,e3⟩:=uh HNX;have HE:=zh (And.intro e1 (And.intro (show B.servN f (k+1)=B.servN f k++[t] from e2) (show B.leftN f (k+1)=B.leftN f k from e3)));clear e1 e2 e3;go_wp2_with (at_builtin; refine wpList_append_lies _ rfl _ _ 49 rfl (w.heap.size+1) 3 i0 (.int .i64 0) 1 8 Tryz.underlying49 (uh HIB).1 (uh HIB).2.1 (uh HIB).2.2.1 (uh HIB).2.2.2 rfl (by decide) (.slice a1 m1 c1) m1 (intsV (B.servN f k)) rfl (ho1.alloc _) ⟨w1.heap.size,0,none⟩ 1 1 [.int .i64 (t:Nat)] rfl rfl (z0q _ _ _) (z0a rfl) (by decide) (by unfold maxLen; omega) (by omega) (by simp; omega) _ rfl ?_; intro g4 c4 w4 hown4 hgrow4 hat4 hlt4)
    have h2:=two_rows (m:=m1+1) (c4:=c4) (uh HPL) (uh HS1).boxq.box.in_.lt ho1 ho2 (uh HC).1 (uh HC).2.1 (uh HC).2.2 hgrow4 (hat4.imp (fun e=>e) (fun e=>by rw[e]; simp));refine⟨⟨k+1,_,by go_num,by omega,by rw[(uh HE).1]; exact(uh HS1).grown hgrow4 h2.1,?_,?_,h2.2.2.1,(uh HC).2.1,h2.2.2.2⟩,by simp[intOf]; omega⟩
    ·rw[(uh HE).2.1,List.length_append,(uh HM).1,z0x]; exact hown4
    ·rw[(uh HE).2.2,(uh HM).2]; exact h2.2.1
   | false=>
    obtain⟨e1,e2,e3⟩:=uh HNX;have HE:=zh (And.intro e1 (And.intro (show B.servN f (k+1)=B.servN f k from e2) (show B.leftN f (k+1)=B.leftN f k++[t] from e3)));clear e1 e2 e3;go_wp2_with (at_builtin; refine wpList_append_lies _ rfl _ _ 49 rfl (w.heap.size+1) 3 i0 (.int .i64 0) 1 8 Tryz.underlying49 (uh HIB).1 (uh HIB).2.1 (uh HIB).2.2.1 (uh HIB).2.2.2 rfl (by decide) (.slice a2 m2 c2) m2 (intsV (B.leftN f k)) rfl (ho2.alloc _) ⟨w1.heap.size,0,none⟩ 1 1 [.int .i64 (t:Nat)] rfl rfl (z0q _ _ _) (z0a rfl) (by decide) (by unfold maxLen; omega) (by omega) (by simp; omega) _ rfl ?_; intro g4 c4 w4 hown4 hgrow4 hat4 hlt4)
    have h2:=two_rows (m:=m2+1) (c4:=c4) (uh HPL) (uh HS1).boxq.box.in_.lt ho2 ho1 (uh HC).2.1 (uh HC).1 (fun b hb e=>(uh HC).2.2 b e hb) hgrow4 (hat4.imp (fun e=>e) (fun e=>by rw[e]; simp));refine⟨⟨k+1,_,by go_num,by omega,by rw[(uh HE).1]; exact(uh HS1).grown hgrow4 h2.1,?_,?_,(uh HC).1,h2.2.2.1,fun b hb e=>h2.2.2.2 b e hb⟩,by simp[intOf]; omega⟩
    ·rw[(uh HE).2.1,(uh HM).1]; exact h2.2.1
    ·rw[(uh HE).2.2,List.length_append,(uh HM).2,z0x]; exact hown4
  ·obtain rfl:k=n:=by omega
   have l1:¬(k:Int) < k:=by omega
   obtain⟨R1,vs1,vr1,vt1,vl1,vw1,va1,qs1,hM1,hR1,hD1,hO1⟩:=hS.boxq.box;obtain⟨⟨q0,q1,q2,q3,q4,q5,q6,q7,q8,q9⟩,⟨-,-,-,f9⟩,qg1⟩:=box10 hM1.box;have hMn:=hM1.newWaits (.slice a2 (B.leftN f k).length c2) (B.leftN f k) (z3a ho2 (Nat.zero_le _)) (fun b hb=>⟨fun hRb=>hn2 b hb (hR1 b hRb),fun e=>hn2 b hb (hO1 b (.inr (.inr (.inr (.inl e)))))⟩);have hgS:D' g:=hO1 g (.inl rfl);have hoS:Only (fun b=>b=g) wr (wr.setCell ⟨g,9,none⟩ (.slice a2 (B.leftN f k).length c2)):=Only.setCell (F:=fun b=>b=g) (a:=⟨g,9,none⟩) rfl _;have hlt2:∀b,(Value.slice a2 (B.leftN f k).length c2).ownBlock=some b->w.heap.size < b/\b < wr.heap.size:=fun b hb=>by have:=ho2.lt b hb; omega
   have hfin:GrantP w D P g (B.grants f) (.agg #[.slice ac f.cmds.length cc,.slice ao f.occ.length co,.slice ap f.rep.length cp]) f (B.servN f k) (.slice a1 (B.servN f k).length c1) (wr.setCell ⟨g,9,none⟩ (.slice a2 (B.leftN f k).length c2)):=by
    refine⟨fun b=>D' b\/(Value.slice a2 (B.leftN f k).length c2).ownBlock=some b,z0r (.slice ac f.cmds.length cc) (.slice ao f.occ.length co) (.slice ap f.rep.length cp),⟨⟨?_,?_,?_⟩,?_,?_,?_⟩,?_,?_⟩
    ·refine⟨R1,vs1,vr1,vt1,vl1,vw1,va1,.slice a2 (B.leftN f k).length c2,qs1,?_,fun b hb=>Or.inl (hR1 b hb),fun b hb=>?_,fun b hb=>?_⟩
     ·unfold PBx.grants
      rw[<-uh HN];exact hMn
     ·rcases hb with hb | hb
      ·simpa [World.setCell] using hD1 b hb
      ·simpa [World.setCell] using (hlt2 b hb).2
     ·rcases hb with hb | hb | hb | hb | hb | hb
      ·exact Or.inl (hO1 b (.inl hb))
      ·exact Or.inl (hO1 b (.inr (.inl hb)))
      ·exact Or.inl (hO1 b (.inr (.inr (.inl hb))))
      ·exact Or.inl (hO1 b (.inr (.inr (.inr (.inl hb)))))
      ·exact Or.inr hb
      ·exact Or.inl (hO1 b (.inr (.inr (.inr (.inr (.inr hb))))))
    ·exact hS.boxq.frame.only hoS (fun b hb e=>hS.boxq.apart b hb (by rw[e]; exact hgS))
    ·intro b hb hh
     rcases hh with hh | hh
     ·exact hS.boxq.apart b hb hh
     ·have:=uh HPL b hb; have:=(hlt2 b hh).1; omega
    ·intro b hb
     rcases hb with hb | hb
     ·exact hS.from_ b hb
     ·exact Or.inr (hlt2 b hb).1
    ·exact hS.only.far hoS (fun i hi e=>by
      rcases hS.from_ i (by rw[e]; exact hgS) with h5 | h5
      ·exact h5
      ·omega)
    ·rw[Below.heap_setCell _ _ _ _ (fun e=>by
      have e':w.heap.size=g:=e;rcases hS.from_ g hgS with h5 | h5
      ·have:=uh HD g h5; omega
      ·omega)]
     exact hS.fr
    ·exact own_only ho1 hoS (fun b hb e=>hn1 b hb (by rw[e]; exact hgS))
    ·intro b hb hh
     rcases hh with hh | hh
     ·exact hn1 b hb hh
     ·exact h12 b hb hh
   have HFIN:=zh hfin;clear hfin hM1 hMn hS ho1 ho2 hn1 hn2 h12 hR1 hD1 hO1 hgS hoS hlt2 hgk hwk y0 y1 y2 q0 q1 q2 q3 q4 q5 q6 q7 q8;generalize (B.servN f k).length=m1 at *;generalize (B.leftN f k).length=m2 at *;go_wp2
   go_ret
   exact⟨_,rfl,uh HFIN⟩
def lampC (ph:Nat):Nat:=if ph=103 then 103 else 114
def PBx.lampsT (B:PBx):List Nat:=B.rts.map (fun x=>lampC x.ph)
set_option maxHeartbeats 2000000 in
theorem signals_any (g:Nat) (B:PBx) (w:World) (h:PBoxAt w g B) (hr:B.rts.length<=1000) :
  Calls Tryz.prog 80 #[.pointer (some ⟨g,0,none⟩)] w fun e w'=>e=.returned (.string (z0i B.lampsT))/\Below w.heap.size w w':=by
 obtain⟨vs,vr,vt,vl,vw,va,vq,hB,-,hL,-⟩:=h;obtain⟨al,cl,rfl,-,hml,l3⟩:=SlAt.open hL;obtain⟨⟨-,-,-,-,-,-,q6,-⟩,-,qg⟩:=box10 hB;unfold PBx.lampsT;generalize B.rts=l at *;unfold maxLen at hml;clear hL hB;obtain⟨i0,hi0⟩:=info_parts Tryz.infoByte;have HIB:=zh hi0;clear hi0;go_enter Tryz.func80,Tryz.ntmps80
 go_wp2
 go_loopw [3,11] (fun d i wr=>∃k:Nat,k<=l.length/\i=.int .i64 k/\wr.ownsRow w.heap.size 5 1 d k (bytsV ((l.take k).map (fun x=>lampC x.ph)))/\Below w.heap.size w wr) (fun _ i _=>l.length - (intOf i).toNat)
 case atStart=>exact⟨0,Nat.zero_le _,rfl,World.ownsRow_nil _ _ _ _,Below.refl _ _⟩
 case round=>
  obtain⟨k,hk,rfl,hown,hb⟩:=hrel;have HB:=zh hb;have hbs:=hb.size;by_cases hlt:k < l.length
  ·have l1:(k:Int) < l.length:=by omega
   obtain⟨ah,ch,hvh⟩:=z02 hown;subst hvh;obtain⟨gl,ol,hal,hgl,cs,-,hC,hc⟩:=l3 k hlt;subst hal;obtain⟨vp,vf,vm,hcs,p1,p2,p3⟩:=hC;subst hcs;obtain⟨a1,d1,rfl,-⟩:=SlAt.open p1;obtain⟨a2,d2,rfl,-⟩:=SlAt.open p2;obtain⟨a3,d3,rfl,-⟩:=SlAt.open p3;have c0:=hc 0 (by omega);have c1:=hc 1 (by omega);have c2:=hc 2 (by omega);have c3:=hc 3 (by omega);have c4:=hc 4 (by omega);have c5:=hc 5 (by omega);have c6:=hc 6 (by omega);have c7:=hc 7 (by omega);have c8:=hc 8 (by omega);rw[<-hb.cell (p:=⟨gl,_,none⟩) hgl] at c0 c1 c2 c3 c4 c5 c6 c7 c8;simp at c0 c1 c2 c3 c4 c5 c6 c7 c8;have HSN:=zh (show bytsV ((l.take (k+1)).map (fun x=>lampC x.ph))=bytsV ((l.take k).map (fun x=>lampC x.ph))++[.int .u8 (lampC l[k].ph:Nat)] by
    rw[z4c _ _ _ hlt]; exact z2g _ _)
   clear hb hc p1 p2 p3 l3;generalize l[k].ph=ph at *;by_cases hph:ph=103
   ·have b1:((ph:Int)==103)=true:=by simp[hph]
    have hl:lampC ph=103:=by unfold lampC; rw[if_pos hph]
    rw[hl] at HSN;clear hph hl;go_wp2_with (at_builtin; refine wpList_append_own _ rfl _ _ 74 rfl w.heap.size 5 i0 (.int .u8 0) 1 1 Tryz.underlying74 (uh HIB).1 (uh HIB).2.1 (uh HIB).2.2.1 (uh HIB).2.2.2 rfl (by decide) _ _ _ rfl ((hown.alloc _).alloc _) ⟨wr.heap.size+1,0,none⟩ 1 1 [.int .u8 103] rfl rfl (z0t _ [.int .u8 103] _ _ (by simp)) (z0a rfl) (by unfold maxLen; omega) (by omega) (by simp; omega) ?_; intro v' w2 hown2 hgrow _)
    exact⟨⟨k+1,by omega,by go_num,by rw[uh HSN]; exact hown2,z0p ((uh HB).alloc hbs _) (by simp; omega) (hown.alloc _) hgrow⟩,by simp[intOf]; omega⟩
   ·have b1:((ph:Int)==103)=false:=by simp; omega
    have hl:lampC ph=114:=by unfold lampC; rw[if_neg hph]
    rw[hl] at HSN;clear hph hl;go_wp2_with (at_builtin; refine wpList_append_own _ rfl _ _ 74 rfl w.heap.size 5 i0 (.int .u8 0) 1 1 Tryz.underlying74 (uh HIB).1 (uh HIB).2.1 (uh HIB).2.2.1 (uh HIB).2.2.2 rfl (by decide) _ _ _ rfl ((hown.alloc _).alloc _) ⟨wr.heap.size+1,0,none⟩ 1 1 [.int .u8 114] rfl rfl (z0t _ [.int .u8 114] _ _ (by simp)) (z0a rfl) (by unfold maxLen; omega) (by omega) (by simp; omega) ?_; intro v' w2 hown2 hgrow _)
    exact⟨⟨k+1,by omega,by go_num,by rw[uh HSN]; exact hown2,z0p ((uh HB).alloc hbs _) (by simp; omega) (hown.alloc _) hgrow⟩,by simp[intOf]; omega⟩
  ·obtain rfl:k=l.length:=by omega
   rw[List.take_length] at hown;have hcv:=byts_str (Byts.ofOwn hown (by simp));obtain⟨ah,ch,hvh⟩:=z02 hown;subst hvh;clear hown hb l3;go_wp2
   go_ret
   exact⟨rfl,uh HB⟩
def PRt.awaitB (x:PRt) (s:Nat):Bool:=x.ph==119&&has (swsOf x.rt) s
def PBx.awaitB (B:PBx) (s:Nat):Bool:=(List.range B.rts.length).any (fun r=>(B.route r).awaitB s)
set_option maxRecDepth 100000 in
set_option maxHeartbeats 4000000 in
theorem isAwaited_any (g:Nat) (B:PBx) (s:Nat) (w:World) (h:PBoxAt w g B) (hr:B.rts.length<=1000) (hok:∀y,y∈B.rts->PRtOK y) :
  Calls Tryz.prog 119 #[.pointer (some ⟨g,0,none⟩),.int .i64 s] w fun e w'=>e=.returned (.bool (B.awaitB s))/\Below w.heap.size w w':=by
 obtain⟨vs,vr,vt,vl,vw,va,vq,hB,-,hL,-⟩:=h;obtain⟨al,cl,rfl,-,hml,l3⟩:=SlAt.open hL;obtain⟨⟨-,-,-,-,-,-,q6,-⟩,-,qg⟩:=box10 hB;obtain⟨Z,hZ⟩:∃Z,Z=B.awaitB s:=⟨_,rfl⟩
 rw[<-hZ];unfold PBx.awaitB at hZ;generalize hff:(fun r=>(B.route r).awaitB s)=f at hZ;have HK2:=zh (show ∀k (h:k < B.rts.length),f k=(B.rts[k].ph==119&&has (swsOf B.rts[k].rt) s) by
  intro k h; rw[<-hff];show (B.route k).awaitB s=_;unfold PBx.route PRt.awaitB;rw[z1f _ _ _ h])
 have HOK:=zh hok;clear hff hok;generalize B.rts=ls at *;unfold maxLen at hml;have HZ:=zh hZ;clear hL hB hZ;go_enter Tryz.func119,Tryz.ntmps119
 go_wp2
 go_loopw [12] (fun i wr=>∃k:Nat,k<=ls.length/\i=.int .i64 k/\(∀j,j < k->f j=false)/\Below w.heap.size w wr) (fun i _=>ls.length - (intOf i).toNat)
 case atStart=>exact⟨0,Nat.zero_le _,rfl,fun j h=>by omega,Below.refl _ _⟩
 case round=>
  obtain⟨k,hk,rfl,hno,hb⟩:=hrel;have HNO:=zh hno;have HB:=zh hb;have hbs:=hb.size;clear hno;by_cases hlt:k < ls.length
  ·obtain⟨gl,ol,hal,hgl,cs,-,hC,hc⟩:=l3 k hlt
   subst hal;obtain⟨vp,vf,vm,hcs,p1,p2,p3⟩:=hC;subst hcs;have hokk:=uh HOK _ (List.getElem_mem hlt);have HSW:=zh (fun (wz:World) (hz:Below w.heap.size w wz)=>z2m ls[k].rt vp vf wz (p1.keep (Keeps.below hz)) (p2.keep (Keeps.below hz)) hokk.path hokk.flank);obtain⟨a1,d1,rfl,-⟩:=SlAt.open p1;obtain⟨a2,d2,rfl,-⟩:=SlAt.open p2;obtain⟨a3,d3,rfl,-⟩:=SlAt.open p3;have c0:=hc 0 (by omega);have c1:=hc 1 (by omega);have c2:=hc 2 (by omega);have c3:=hc 3 (by omega);have c4:=hc 4 (by omega);have c5:=hc 5 (by omega);have c6:=hc 6 (by omega);have c7:=hc 7 (by omega);have c8:=hc 8 (by omega);rw[<-hb.cell (p:=⟨gl,_,none⟩) hgl] at c0 c1 c2 c3 c4 c5 c6 c7 c8;simp at c0 c1 c2 c3 c4 c5 c6 c7 c8;have hglw:gl < wr.heap.size:=by omega
   have HF:=zh (uh HK2 k hlt);have e1:(k:Int) < ls.length:=by omega
   have e0:(0:Int)<=k:=by omega
   clear hc l3 hb p1 p2 p3 hokk;have HNN:=zh (show f k=false->∀j,j < k+1->f j=false from fun h=>step_all (uh HNO) h);have HTR:=zh (show f k=true->Z=true by
    intro h; rw[uh HZ,anyr_true hlt h])
   generalize ls[k].train=tr at *;generalize ls[k].been=be at *;generalize ls[k].count=ct at *;generalize ls[k].freed=fd at *;generalize ls[k].marked.length=ml at *;obtain⟨ph,hph⟩:∃n,ls[k].ph=n:=⟨_,rfl⟩
   rw[hph] at HF c3;clear hph;by_cases h9:ph=119
   ·have b1:((ph:Int)==119)=true:=by simp[h9]
    have HF1:=zh (show f k=has (swsOf ls[k].rt) s by rw[uh HF,h9]; rfl);clear h9 HF;go_wp2_with fail
    refine(uh HSW _ ((uh HB).alloc hbs _)).mono ?_;rintro e w1 ⟨b5,n5,d5,rfl,hI5,hb5⟩;have hB5:=((uh HB).alloc hbs _).trans (hb5.mono (by simp; omega));have HB5:=zh hB5;have HNM:=zh (z4o _ _ s w1 hI5);clear hI5 hb5 hB5 c0 c1 c2 c3 c4 c5 c6 c7 c8 HSW;go_wp2_with fail
    refine(uh HNM).mono ?_;rintro e w2 ⟨rfl,hb6⟩;have HB6:=zh ((uh HB5).trans (hb6.mono (uh HB5).size));clear hb6 HNM;obtain⟨bh,hbh⟩:∃b,has (swsOf ls[k].rt) s=b:=⟨_,rfl⟩
    rw[hbh] at HF1 ⊢;clear hbh;cases bh with
    | true=>
     have HZ2:=zh (uh HTR (uh HF1));go_wp2
     go_ret
     exact⟨z04 (uh HZ2).symm,uh HB6⟩
    | false=>
     have HN2:=zh (uh HNN (uh HF1));go_wp2
     exact⟨⟨k+1,by omega,by go_num,uh HN2,uh HB6⟩,by simp[intOf]; omega⟩
   ·have b1:((ph:Int)==119)=false:=by simp; omega
    have HN2:=zh (uh HNN (by rw[uh HF]; simp[h9]));clear h9 HSW;go_wp2
    exact⟨⟨k+1,by omega,by go_num,uh HN2,(uh HB).alloc hbs _⟩,by simp[intOf]; omega⟩
  ·obtain rfl:k=ls.length:=by omega
   have HZ2:=zh (show Z=false by rw[uh HZ,anyr_false (uh HNO)]);clear l3 hb;go_wp2
   go_ret
   exact⟨z04 (uh HZ2).symm,uh HB⟩
def PBx.moveC (B:PBx) (f:PFr) (s:Nat):Nat:=if (B.awaitB s&&!f.occ.getD s false&&!(B.sw s).failed)&&!f.repAs s (B.sw s).wanted then (B.sw s).wanted else 46
def PBx.moveT (B:PBx) (f:PFr) (s:Nat):List Nat:=if B.L.sw.getD s false then [B.moveC f s] else []
def PBx.movesT (B:PBx) (f:PFr):List Nat:=(List.range B.sws.length).flatMap (B.moveT f)
set_option maxRecDepth 100000 in
set_option maxHeartbeats 8000000 in
theorem moves_any (g:Nat) (B:PBx) (vfr:Value) (f:PFr) (w:World) (h:PBoxAt w g B) (hf:FrP w vfr f) (hr:B.rts.length<=1000) (hok:∀y,y∈B.rts->PRtOK y) (hl:B.sws.length<=1000) :
  Calls Tryz.prog 81 #[.pointer (some ⟨g,0,none⟩),vfr] w fun e w'=>e=.returned (.string (z0i (B.movesT f)))/\Below w.heap.size w w':=by
 have HAW:=zh (fun (s:Nat) (wz:World) (hz:Below w.heap.size w wz)=>isAwaited_any g B s wz (h.below hz) hr hok);have HOC:=zh (fun (s:Nat) (wz:World) (hz:Below w.heap.size w wz)=>occ_any _ f s wz (hf.below hz));have HRP:=zh (fun (s c:Nat) (wz:World) (hz:Below w.heap.size w wz)=>rep_any _ f s c wz (hf.below hz));obtain⟨vc,vo,vr9,rfl,h1,h2,h3⟩:=hf;obtain⟨ac,cc,rfl,-⟩:=SlAt.open h1;obtain⟨ao,co,rfl,-⟩:=SlAt.open h2;obtain⟨ap,cp,rfl,-⟩:=SlAt.open h3;obtain⟨vs,vr,vt,vl,vw,va,vq,hB,hCL,-,hW,-⟩:=h;have HHS:=zh (fun (s:Nat) (wz:World) (hz:Below w.heap.size w wz)=>z22 _ B.L s wz (hCL.below hz));obtain⟨_,_,_,he,hS,hR,hT⟩:=hCL;simp only[Value.agg.injEq,Array.mk.injEq,List.cons.injEq,and_true,true_and] at he;obtain⟨rfl,rfl,rfl⟩:=he;obtain⟨a1,d1,rfl,-⟩:=SlAt.open hS;obtain⟨a2,d2,rfl,-⟩:=SlAt.open hR;obtain⟨a3,d3,rfl,-⟩:=SlAt.open hT;obtain⟨aw,cw,rfl,-,hmw,w3⟩:=SlAt.open hW;obtain⟨⟨q0,q1,q2,q3,q4,q5,-,q7,-⟩,-,qg⟩:=box10 hB;have HT:=zh (show ∀k (h:k < B.sws.length),B.moveT f k=if B.L.sw.getD k false then [if (B.awaitB k&&!f.occ.getD k false&&!B.sws[k].failed)&&!f.repAs k B.sws[k].wanted then B.sws[k].wanted else 46] else [] by
  intro k h;unfold PBx.moveT PBx.moveC PBx.sw;rw[z1f _ _ _ h])
 have hle:=flat_le (B.moveT f) (by intro s; unfold PBx.moveT; split <;> simp);unfold PBx.movesT;generalize B.moveT f=F at *;have HLE:=zh hle;have HQ:=zh (And.intro q0 (And.intro q1 (And.intro q2 (And.intro q3 (And.intro q4 q5)))));have HFB:=zh (heap_alloc_new w (z0r (.slice ac f.cmds.length cc) (.slice ao f.occ.length co) (.slice ap f.rep.length cp)));have HW0:=zh (z01 w (z0r (.slice ac f.cmds.length cc) (.slice ao f.occ.length co) (.slice ap f.rep.length cp)));unfold maxLen at hmw;obtain⟨n,hn⟩:∃n,n=B.sws.length:=⟨_,rfl⟩
 rw[<-hn] at q7 hl ⊢;have HN:=zh hn;have W3:=zh w3;clear hS hR hT hW hB hle h1 h2 h3 q0 q1 q2 q3 q4 q5 hok hr w3 hn;obtain⟨i0,hi0⟩:=info_parts Tryz.infoByte;have HIB:=zh hi0;clear hi0;go_enter Tryz.func81,Tryz.ntmps81
 go_wp2
 go_loopw [5,14] (fun d i wr=>∃k m:Nat,k<=n/\i=.int .i64 k/\m=((List.range k).flatMap F).length/\wr.ownsRow (w.heap.size+1) 5 1 d m (bytsV ((List.range k).flatMap F))/\Below w.heap.size w wr/\wr.heap[w.heap.size]?=some (z0r (.slice ac f.cmds.length cc) (.slice ao f.occ.length co) (.slice ap f.rep.length cp))) (fun _ i _=>n - (intOf i).toNat)
 case atStart=>exact⟨0,0,Nat.zero_le _,rfl,rfl,World.ownsRow_nil _ _ _ _,uh HW0,uh HFB⟩
 case round=>
  clear HW0 HFB q7;obtain⟨k,m,hk,rfl,hm,hown,hb,hfb⟩:=hrel;have HB:=zh hb;have hbs:=hb.size;have HFB:=zh hfb;have hwz:w.heap.size < wr.heap.size:=z0g hfb;have hmk:=uh HLE k;rw[<-hm] at hmk;have HM:=zh hm;clear hm;obtain⟨ah,ch,hvh⟩:=z02 hown;subst hvh;by_cases hlt:k < n
  ·have hkB:k < B.sws.length:=by rw[<-uh HN]; exact hlt
   have l1:(k:Int) < n:=by omega
   have l0:(0:Int)<=k:=by omega
   obtain⟨gl,ol,hal,hgl,cs,-,hC,hc⟩:=uh W3 k hkB;subst hal;unfold CPSw swV at hC;subst hC;have x0:=hc 0 (by omega);have x1:=hc 1 (by omega);have x2:=hc 2 (by omega);rw[<-hb.cell (p:=⟨gl,_,none⟩) hgl] at x0 x1 x2;simp at x0 x1 x2;obtain⟨q0,q1,q2,q3,q4,q5⟩:=uh HQ;rw[<-hb.cell (p:=⟨g,_,none⟩) qg] at q0 q1 q2 q3 q4 q5;have HSN:=zh (swT_snoc F k);rw[uh HT k hkB] at HSN;have hglw:gl < wr.heap.size:=by omega
   have hgw0:g < wr.heap.size:=by omega
   have HOWN:=zh hown;have HAK:=zh (uh HAW k);have HOK:=zh (uh HOC k);have HRK:=zh (uh HRP k);have HHK:=zh (uh HHS k);clear hb hc hfb hown;obtain⟨x,hx⟩:∃x,B.sws[k]=x:=⟨_,rfl⟩
   rw[hx] at x0 x1 x2 HSN;clear hx hkB;obtain⟨wa,la,fa⟩:=x;simp only at x0 x1 x2 HSN;go_wp2_with fail
   refine(uh HHK _ ((uh HB).alloc hbs _)).mono ?_;rintro e w1 ⟨rfl,hb1⟩;have hx1:w1.heap[wr.heap.size]?=some (.cells #[.int .u8 wa,.int .i64 la,.bool fa] 110 (0,0)):=(hb1.block _ (by simp)).trans (heap_alloc_new _ _);have hB1:=((uh HB).alloc hbs _).trans (hb1.mono (by simp; omega));have HB1:=zh hB1;have HX1:=zh hx1;have HF1:=zh ((hb1.block w.heap.size (by simp; omega)).trans ((Below.heap_alloc _ _ _ hwz).trans (uh HFB)));have HO1:=zh (z0j ((uh HOWN).alloc _) hb1);have hz1:=hB1.size;have hz1b:=hb1.size;simp at hz1b;clear hb1 hB1 hx1 q0 q1 q2 q3 q4 q5 x0 x1 x2 HHK;obtain⟨bs,hbs2⟩:∃b,B.L.sw.getD k false=b:=⟨_,rfl⟩
   rw[hbs2] at HSN ⊢;clear hbs2;cases bs with
   | false=>
    have HS2:=zh (show (List.range (k+1)).flatMap F=(List.range k).flatMap F by rw[uh HSN]; simp);go_wp2
    exact⟨⟨k+1,m,by omega,by go_num,by rw[uh HS2]; exact uh HM,by rw[uh HS2]; exact uh HO1,uh HB1,uh HF1⟩,by simp[intOf]; omega⟩
   | true=>
    rw[if_pos rfl] at HSN;go_wp2_with fail
    refine(uh HAK w1 (uh HB1)).mono ?_;rintro e w2 ⟨rfl,hb2⟩;have HB2:=zh ((uh HB1).trans (hb2.mono hz1));have HX2:=zh ((hb2.block wr.heap.size (z0g (uh HX1))).trans (uh HX1));have HF2:=zh ((hb2.block w.heap.size (z0g (uh HF1))).trans (uh HF1));have HO2:=zh (z0j (uh HO1) hb2);have hz2:=(uh HB2).size;obtain⟨⟨z0,z1,z2⟩,-,qz⟩:=tri0 (uh HX2);obtain⟨⟨y0,y1,y2⟩,-,qf⟩:=tri0 (uh HF2);clear hb2 HAK;have HAP:=zh (show ∀(c:Nat) (W:World),W.ownsRow (w.heap.size+1) 5 1 (.slice ah m ch) m (bytsV ((List.range k).flatMap F))->Below w.heap.size w W->W.heap[w.heap.size]?=some (z0r (.slice ac f.cmds.length cc) (.slice ao f.occ.length co) (.slice ap f.rep.length cp))->(List.range (k+1)).flatMap F=(List.range k).flatMap F++[c] →
      ∀v' w9 o,w9.ownsRow (w.heap.size+1) 5 1 v' (m+1) (bytsV ((List.range k).flatMap F)++[.int .u8 (c:Nat)])->(W.alloc o).grownBy w9 (Value.slice ah m ch).ownBlock →
      m+1=((List.range (k+1)).flatMap F).length/\w9.ownsRow (w.heap.size+1) 5 1 v' (m+1) (bytsV ((List.range (k+1)).flatMap F))/\Below w.heap.size w w9/\w9.heap[w.heap.size]?=some (z0r (.slice ac f.cmds.length cc) (.slice ao f.occ.length co) (.slice ap f.rep.length cp)) by
     intro c W ho hbW hfW hS v' w9 o ho9 hg9;refine⟨by rw[hS,List.length_append,<-uh HM]; rfl,by rw[hS,z2g]; exact ho9,?_,?_⟩
     ·exact z0p hbW hbW.size (z3a ho (by omega)) hg9
     ·rw[hg9.block w.heap.size (by have:=z0g hfW; simp; omega) (fun e=>by have:=(ho.lt _ e.symm).1; omega),Below.heap_alloc _ _ _ (z0g hfW)]
      exact hfW)
    obtain⟨ba,hba⟩:∃b,B.awaitB k=b:=⟨_,rfl⟩
    rw[hba] at HSN ⊢;clear hba;cases ba with
    | false=>
     have HS2:=zh (show (List.range (k+1)).flatMap F=(List.range k).flatMap F++[46] from uh HSN);have hown2:=uh HO2;clear z0 z1 z2 y0 y1 y2;go_wp2_with (at_builtin; refine wpList_append_own _ rfl _ _ 74 rfl (w.heap.size+1) 5 i0 (.int .u8 0) 1 1 Tryz.underlying74 (uh HIB).1 (uh HIB).2.1 (uh HIB).2.2.1 (uh HIB).2.2.2 rfl (by decide) _ _ _ rfl (hown2.alloc _) ⟨w2.heap.size,0,none⟩ 1 1 [.int .u8 46] rfl rfl (z0q _ _ _) (z0a rfl) (by unfold maxLen; omega) (by omega) (by simp; omega) ?_; intro v' w9 hown9 hgrow9 _)
     have e9:=uh HAP 46 w2 hown2 (uh HB2) (uh HF2) (uh HS2) v' w9 _ hown9 hgrow9;exact⟨⟨k+1,m+1,by omega,by go_num,e9.1,e9.2.1,e9.2.2.1,e9.2.2.2⟩,by simp[intOf]; omega⟩
    | true=>
     go_wp2_with fail
     refine(uh HOK w2 (uh HB2)).mono ?_;rintro e w3 ⟨rfl,hb3⟩;have HB3:=zh ((uh HB2).trans (hb3.mono hz2));have HX3:=zh ((hb3.block wr.heap.size (z0g (uh HX2))).trans (uh HX2));have HF3:=zh ((hb3.block w.heap.size (z0g (uh HF2))).trans (uh HF2));have HO3:=zh (z0j (uh HO2) hb3);have hz3:=(uh HB3).size;clear z0 z1 z2 y0 y1 y2;obtain⟨⟨z0,z1,z2⟩,-,qz3⟩:=tri0 (uh HX3);obtain⟨⟨y0,y1,y2⟩,-,qf3⟩:=tri0 (uh HF3);clear hb3 HOK;obtain⟨bo,hbo⟩:∃b,f.occ.getD k false=b:=⟨_,rfl⟩
     rw[hbo] at HSN ⊢;clear hbo;cases bo with
     | true=>
      have HS2:=zh (show (List.range (k+1)).flatMap F=(List.range k).flatMap F++[46] from uh HSN);have hown2:=uh HO3;clear z0 z1 z2 y0 y1 y2;go_wp2_with (at_builtin; refine wpList_append_own _ rfl _ _ 74 rfl (w.heap.size+1) 5 i0 (.int .u8 0) 1 1 Tryz.underlying74 (uh HIB).1 (uh HIB).2.1 (uh HIB).2.2.1 (uh HIB).2.2.2 rfl (by decide) _ _ _ rfl (hown2.alloc _) ⟨w3.heap.size,0,none⟩ 1 1 [.int .u8 46] rfl rfl (z0q _ _ _) (z0a rfl) (by unfold maxLen; omega) (by omega) (by simp; omega) ?_; intro v' w9 hown9 hgrow9 _)
      have e9:=uh HAP 46 w3 hown2 (uh HB3) (uh HF3) (uh HS2) v' w9 _ hown9 hgrow9;exact⟨⟨k+1,m+1,by omega,by go_num,e9.1,e9.2.1,e9.2.2.1,e9.2.2.2⟩,by simp[intOf]; omega⟩
     | false=>
      cases fa with
      | true=>
       have HS2:=zh (show (List.range (k+1)).flatMap F=(List.range k).flatMap F++[46] from uh HSN);have hown2:=uh HO3;clear y0 y1 y2;go_wp2_with (at_builtin; refine wpList_append_own _ rfl _ _ 74 rfl (w.heap.size+1) 5 i0 (.int .u8 0) 1 1 Tryz.underlying74 (uh HIB).1 (uh HIB).2.1 (uh HIB).2.2.1 (uh HIB).2.2.2 rfl (by decide) _ _ _ rfl (hown2.alloc _) ⟨w3.heap.size,0,none⟩ 1 1 [.int .u8 46] rfl rfl (z0q _ _ _) (z0a rfl) (by unfold maxLen; omega) (by omega) (by simp; omega) ?_; intro v' w9 hown9 hgrow9 _)
       have e9:=uh HAP 46 w3 hown2 (uh HB3) (uh HF3) (uh HS2) v' w9 _ hown9 hgrow9;exact⟨⟨k+1,m+1,by omega,by go_num,e9.1,e9.2.1,e9.2.2.1,e9.2.2.2⟩,by simp[intOf]; omega⟩
      | false=>
       go_wp2_with fail
       refine(uh HRK wa w3 (uh HB3)).mono ?_;rintro e w4 ⟨rfl,hb4⟩;have HB4:=zh ((uh HB3).trans (hb4.mono hz3));have HF4:=zh ((hb4.block w.heap.size (z0g (uh HF3))).trans (uh HF3));have HO4:=zh (z0j (uh HO3) hb4);have hz4:=(uh HB4).size;have hX4:=(hb4.block wr.heap.size (z0g (uh HX3))).trans (uh HX3);clear z0 z1 z2 y0 y1 y2;obtain⟨⟨z0,z1,z2⟩,-,qz4⟩:=tri0 hX4;clear hb4 hX4 HRK;obtain⟨br,hbr⟩:∃b,f.repAs k wa=b:=⟨_,rfl⟩
       rw[hbr] at HSN ⊢;clear hbr;have hown2:=uh HO4;cases br with
       | true=>
        have HS2:=zh (show (List.range (k+1)).flatMap F=(List.range k).flatMap F++[46] from uh HSN);go_wp2_with (at_builtin; refine wpList_append_own _ rfl _ _ 74 rfl (w.heap.size+1) 5 i0 (.int .u8 0) 1 1 Tryz.underlying74 (uh HIB).1 (uh HIB).2.1 (uh HIB).2.2.1 (uh HIB).2.2.2 rfl (by decide) _ _ _ rfl (hown2.alloc _) ⟨w4.heap.size,0,none⟩ 1 1 [.int .u8 46] rfl rfl (z0q _ _ _) (z0a rfl) (by unfold maxLen; omega) (by omega) (by simp; omega) ?_; intro v' w9 hown9 hgrow9 _)
        have e9:=uh HAP 46 w4 hown2 (uh HB4) (uh HF4) (uh HS2) v' w9 _ hown9 hgrow9;exact⟨⟨k+1,m+1,by omega,by go_num,e9.1,e9.2.1,e9.2.2.1,e9.2.2.2⟩,by simp[intOf]; omega⟩
       | false=>
        have HS2:=zh (show (List.range (k+1)).flatMap F=(List.range k).flatMap F++[wa] from uh HSN);go_wp2_with (at_builtin; refine wpList_append_own _ rfl _ _ 74 rfl (w.heap.size+1) 5 i0 (.int .u8 0) 1 1 Tryz.underlying74 (uh HIB).1 (uh HIB).2.1 (uh HIB).2.2.1 (uh HIB).2.2.2 rfl (by decide) _ _ _ rfl (hown2.alloc _) ⟨w4.heap.size,0,none⟩ 1 1 [.int .u8 (wa:Nat)] rfl rfl (z0q _ _ _) (z0a rfl) (by unfold maxLen; omega) (by omega) (by simp; omega) ?_; intro v' w9 hown9 hgrow9 _)
        have e9:=uh HAP wa w4 hown2 (uh HB4) (uh HF4) (uh HS2) v' w9 _ hown9 hgrow9;exact⟨⟨k+1,m+1,by omega,by go_num,e9.1,e9.2.1,e9.2.2.1,e9.2.2.2⟩,by simp[intOf]; omega⟩
  ·obtain rfl:k=n:=by omega
   have l1:¬(k:Int) < k:=by omega
   have hcv:=byts_str (Byts.ofOwn hown (uh HM));clear hown hb hfb;go_wp2
   go_ret
   exact⟨rfl,uh HB⟩
end Go.Proofs.YtkbpocecbcaiiabGreatDoor
