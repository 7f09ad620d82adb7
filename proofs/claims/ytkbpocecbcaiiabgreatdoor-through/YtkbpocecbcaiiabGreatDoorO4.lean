import Derived.Test.YtkbpocecbcaiiabGreatDoorO3
namespace Go.Proofs.YtkbpocecbcaiiabGreatDoor
open Go.RowKit
def G2 (w w':World) (b l:Nat):Prop:=w'.os=w.os/\w'.tape=w.tape/\w'.output=w.output/\w.heap.size<=w'.heap.size/\∀k,k < w.heap.size->k≠b->k≠l->w'.heap[k]?=w.heap[k]?
theorem G2.refl (w:World) (b l:Nat):G2 w w b l:=⟨rfl,rfl,rfl,Nat.le_refl _,fun _ _ _ _=>rfl⟩
theorem G2.trans {w w1 w2:World} {b l:Nat} (h:G2 w w1 b l) (k:G2 w1 w2 b l):G2 w w2 b l:=
 ⟨k.1.trans h.1,k.2.1.trans h.2.1,k.2.2.1.trans h.2.2.1,Nat.le_trans h.2.2.2.1 k.2.2.2.1,fun i hi n1 n2=>(k.2.2.2.2 i (Nat.lt_of_lt_of_le hi h.2.2.2.1) n1 n2).trans (h.2.2.2.2 i hi n1 n2)⟩
theorem G2.gr {w w1 w2:World} {b l:Nat} (h:G2 w w1 b l) (g:w1.grownBy w2 (some b)):G2 w w2 b l:=
 h.trans ⟨g.os,g.tape,g.output,g.size,fun k hk n1 _=>g.block k hk (by simpa using n1)⟩
theorem G2.set {w w1:World} {b l:Nat} (h:G2 w w1 b l) (j:Nat) (u:Value):G2 w (w1.setCell ⟨l,j,none⟩ u) b l:=
 h.trans ⟨rfl,rfl,rfl,by simp[World.setCell],fun k _ _ n2=>Below.heap_setCell _ _ _ _ n2⟩
theorem G2.setb {w w1:World} {b l:Nat} (h:G2 w w1 b l) (j:Nat) (u:Value):G2 w (w1.setCell ⟨b,j,none⟩ u) b l:=
 h.trans ⟨rfl,rfl,rfl,by simp[World.setCell],fun k _ n1 _=>Below.heap_setCell _ _ _ _ n1⟩
theorem G2.setn {w w1:World} {b l:Nat} (h:G2 w w1 b l) (g j:Nat) (u:Value) (hg:w.heap.size<=g):G2 w (w1.setCell ⟨g,j,none⟩ u) b l:=
 ⟨h.1,h.2.1,h.2.2.1,by simpa [World.setCell] using h.2.2.2.1,fun k hk n1 n2=>by rw[Below.heap_setCell _ _ _ _ (by show k≠g; omega)]; exact h.2.2.2.2 k hk n1 n2⟩
theorem G2.alloc {w w1:World} {b l:Nat} (h:G2 w w1 b l) (o:Obj):G2 w (w1.alloc o) b l:=
 h.trans ⟨rfl,rfl,rfl,by simp,fun k hk _ _=>Below.heap_alloc _ _ _ hk⟩
theorem G2.own {w w1 w2:World} {b l B:Nat} {o:Obj} {v:Value} {e:TypeId} {size n:Nat} {xs:List Value} (h:G2 w w1 b l) (hB:w.heap.size<=B)
  (hown:w1.ownsRow B e size v n xs) (hg:(w1.alloc o).grownBy w2 v.ownBlock):G2 w w2 b l:=by
 refine⟨hg.os.trans h.1,hg.tape.trans h.2.1,hg.output.trans h.2.2.1,Nat.le_trans h.2.2.2.1 (Nat.le_trans (by simp) hg.size),fun k hk n1 n2=>?_⟩;have hk1:k < w1.heap.size:=Nat.lt_of_lt_of_le hk h.2.2.2.1;have h1:(w1.alloc o).heap[k]?=w1.heap[k]?:=Below.heap_alloc _ _ _ hk1;have h2:w2.heap[k]?=(w1.alloc o).heap[k]?:=hg.block k (by simp; omega) (fun e=>by have:=(hown.lt k e.symm).1; omega);rw[h2,h1];exact h.2.2.2.2 k hk n1 n2
def LCell (w:World) (l:Nat) (t d q vs vr vt:Value):Prop:=w.heap[l]?=some (.cells #[t,d,q,vs,vr,vt] 82 (0,0))
def secL (s:ByteArray):Nat->Nat->List Bool×Nat
 | 0,p=>([],p)
 | f+1,p=>if pk s p=46\/pk s p=121 then (((pk s p==121) :: (secL s f (p+1)).1),(secL s f (p+1)).2) else ([],p)
set_option maxHeartbeats 1000000 in
theorem sections_clo (b l:Nat) (s:ByteArray) (p:Nat) (t d q:Int) (w:World) (h:Cur w b s p) (hL:LCell w l (.int .i64 t) (.int .i64 d) (.int .i64 q) (.slice none 0 0) (.slice none 0 0) (.slice none 0 0)) (hs:s.size<=256) (hp:p<=s.size) (hbl:b≠l) :
  Calls Tryz.prog 157 #[.pointer (some ⟨b,0,none⟩),.pointer (some ⟨l,0,none⟩)] w fun e w'=>∃(a1:Option Addr) (n1 c1:Nat),e=.returned (.bool (decide (0 < (secL s 300 p).1.length))) ∧
   LCell w' l (.int .i64 t) (.int .i64 d) (.int .i64 q) (.slice a1 n1 c1) (.slice none 0 0) (.slice none 0 0)/\Bools w' (.slice a1 n1 c1) (secL s 300 p).1/\Cur w' b s (secL s 300 p).2/\(secL s 300 p).2<=s.size/\G2 w w' b l/\Lo w.heap.size (.slice a1 n1 c1):=by
 have hbw:=h.cells.2.2.2.2;have hlw:=z0g hL;obtain⟨i0,hi0⟩:=info_parts Tryz.infoBool;have HI:=zh hi0;clear hi0;obtain⟨Z,hZ⟩:∃Z,Z=secL s 300 p:=⟨_,rfl⟩
 rw[<-hZ];have H1:=zh (peek_any b s p w h hp);go_enter Tryz.func157,Tryz.ntmps157
 go_wp2_with fail
 refine(uh H1).mono ?_;rintro e w1 ⟨rfl,a3⟩;have A:=zh (And.intro (h.gr a3 (by simp)) (And.intro (z1t hL (z5e a3 (some b)) (Ne.symm hbl)) (And.intro ((G2.refl w b l).gr (z5e a3 _)) hZ)));clear H1 a3 hZ;go_wp2
 go_loopg [5] 300 (fun f c wr=>∃q':Nat,∃acc vs,c=.int .u8 (pk s q')/\acc.length<=q'/\q'<=s.size/\s.size < q'+f/\wr.ownsRow w.heap.size 4 1 vs acc.length (z17 acc)/\Z=(acc++(secL s f q').1,(secL s f q').2) ∧
   LCell wr l (.int .i64 t) (.int .i64 d) (.int .i64 q) vs (.slice none 0 0) (.slice none 0 0)/\Cur wr b s q'/\G2 w wr b l)
 case atStart=>exact⟨p,[],_,rfl,Nat.zero_le _,hp,by omega,World.ownsRow_nil _ _ _ _,(uh A).2.2.2,(uh A).2.1,(uh A).1,(uh A).2.2.1⟩
 case round=>
  clear A;obtain⟨q',acc,vs,rfl,hac,hq,hf,hown,hZ2,hLc,hC,hG⟩:=hrel;obtain⟨f,hfe⟩:∃f,gk=f+1:=⟨gk - 1,by omega⟩
  subst hfe;have hsz:=hG.2.2.2.1;obtain⟨⟨y0,y1,y2,y3,y4,y5⟩,⟨f0,f1,f2,f3,f4,f5⟩,ql⟩:=six0 hLc;obtain⟨c0,c1,cf0,cf1,qb⟩:=hC.cells;obtain⟨av,cv,hvs⟩:=z02 hown;subst hvs;have hc256:=pk_lt s q';by_cases hin:pk s q'=46\/pk s q'=121
  ·have hlt:q' < s.size:=pk_pos s q' (by omega)
   have HZ2:=zh (show Z=((acc++[pk s q'==121])++(secL s f (q'+1)).1,(secL s f (q'+1)).2) by rw[hZ2]; simp[secL,hin]);have F:=zh (And.intro hLc (And.intro hC hG));have hL:=zh (fun w' (h:Cur w' b s (q'+1))=>peek_any b s (q'+1) w' h hlt);have hqq:(q':Int)+1=((q'+1:Nat):Int):=by omega
   have HQQ:=zh hqq;have hbv:∃bv,bv=(pk s q'==121)/\((pk s q':Int)==121)=bv:=⟨_,rfl,by rw[Bool.eq_iff_iff]; simp; omega⟩
   obtain⟨bv,hb1,hb2⟩:=hbv;rw[<-hb1] at HZ2;have hin2:((pk s q':Int)==46)=true\/(((pk s q':Int)==46)=false/\((pk s q':Int)==121)=true):=by
    rcases hin with h | h
    ·left; simp; omega
    ·right; constructor <;> simp <;> omega
   generalize pk s q'=c at *;clear hZ2 hLc hC hG hb1 hqq hin;have hcase:(bv=false/\((c:Int)==46)=true/\((c:Int)==121)=false)\/(bv=true/\((c:Int)==46)=false/\((c:Int)==121)=true):=by
    rcases hin2 with h | ⟨h1,h2⟩
    ·left
     have h3:((c:Int)==121)=false:=by simp at h ⊢; omega
     exact⟨hb2.symm.trans h3,h,h3⟩
    ·right; exact⟨hb2.symm.trans h2,h1,h2⟩
   clear hin2 hb2;rcases hcase with ⟨hbv,hin2,hin3⟩ | ⟨hbv,hin2,hin3⟩ <;> subst hbv
   all_goals
    go_wp2_with (first
     | (at_builtin; refine wpList_append_own _ rfl _ _ 48 rfl w.heap.size 4 i0 (.bool false) 1 1 Tryz.underlying48 (uh HI).1 (uh HI).2.1 (uh HI).2.2.1 (uh HI).2.2.2 rfl (by decide) _ _ _ rfl (hown.alloc _) ⟨wr.heap.size,0,none⟩ 1 1 [.bool _] rfl rfl (z0q _ _ _) (z0a rfl) (by unfold maxLen; omega) (by omega) (by simp; omega) ?_; intro v3 w3 hown3 hgrow0 _; have hgrow3:(wr.alloc (.cells #[.bool _] 4)).grownBy w3 (Value.slice av acc.length cv).ownBlock:=hgrow0; have hL3:=(z0f hown hgrow3 (by decide) _ _ _ (uh F).1).trans (uh F).1; have hC3:=(uh F).2.1.own hown hgrow3 (by decide); have HF3:=zh (And.intro hL3 (And.intro hC3 ((uh F).2.2.own (Nat.le_refl _) hown hgrow3))); obtain⟨av',cv',hv'⟩:=z02 hown3; subst hv'; clear y0 y1 y2 y3 y4 y5 f0 f1 f2 f3 f4 f5 ql c0 c1 cf0 cf1 qb; obtain⟨⟨y0,y1,y2,y3,y4,y5⟩,⟨f0,f1,f2,f3,f4,f5⟩,ql⟩:=six0 hL3; obtain⟨c0,c1,cf0,cf1,qb⟩:=hC3.cells; clear hL3 hC3)
     | (go_at_call 177; rw[uh HQQ]; refine(uh hL _ (((uh HF3).2.1.setCell l 3 (.slice av' (acc.length+1) cv') hbl).set (q'+1))).mono ?_; rintro e w4 ⟨rfl,a3⟩))
    have hL4:=z1t ((Below.heap_setCell _ ⟨b,1,none⟩ (.int .i64 ((q'+1:Nat):Int)) l (Ne.symm hbl)).trans (z0b (j:=3) (.slice av' (acc.length+1) cv') (uh HF3).1)) (z5e a3 (some b)) (Ne.symm hbl);have hC4:=(((uh HF3).2.1.setCell l 3 (.slice av' (acc.length+1) cv') hbl).set (q'+1)).gr a3 (by simp);have hG4:=(((uh HF3).2.2.set 3 (.slice av' (acc.length+1) cv')).setb 1 (.int .i64 ((q'+1:Nat):Int))).gr (z5e a3 _);have hT4:Typed (w3.setCell ⟨l,3,none⟩ (.slice av' (acc.length+1) cv')) b 179:=((uh HF3).2.1.setCell l 3 (.slice av' (acc.length+1) cv') hbl).typed;have hown4:=(z3e (z3e hown3 l 3 (.slice av' (acc.length+1) cv') ⟨_,_,(uh HF3).1⟩ (by decide)) b 1 (.int .i64 ((q'+1:Nat):Int)) hT4 (by decide)).kept a3 (by cases hvv:(Value.slice av' (acc.length+1) cv').ownBlock <;> simp);rw[<-z3c] at hown4;go_roundg f
    case measure=>omega
    case rel=>exact⟨q'+1,acc++[_],_,rfl,by simp; omega,hlt,by omega,by simpa using hown4,uh HZ2,hL4,hC4,hG4⟩
  ·have n1:((pk s q':Int)==46)=false:=by simp; omega
   have n2:((pk s q':Int)==121)=false:=by simp; omega
   have hZ3:Z=(acc,q'):=by rw[hZ2]; simp[secL,hin]
   have FLO:=zh (Lo.of hown);have F:=zh (And.intro hLc (And.intro (Bools.ofOwn hown rfl) (And.intro hC (And.intro hG hZ3))));clear hown hZ2 hZ3 hLc hC hG hin;generalize pk s q'=c at *;go_wp2
   go_ret
   obtain⟨F1,F2,F3,F4,F5⟩:=uh F;exact⟨av,acc.length,cv,by rw[F5] <;> rfl,F1,by rw[F5]; exact F2,by rw[F5]; exact F3,by rw[F5]; exact hq,F4,uh FLO⟩
def z2z (s:ByteArray) (p:Nat):Nat:=
 if inB 49 57 (pk s p)=false then 0 else if inB 49 57 (pk s (p+1))=false then 1 else if inB 49 57 (pk s (p+2))=false then 2 else 3
def dig (s:ByteArray) (p k j:Nat):Value:=.int .i64 ((if j < k then offB 49 57 (pk s (p+j))+1 else 0:Nat):Int)
theorem timesN_at (s:ByteArray) (p k:Nat) (hk:k<=3) (h:∀j,j < k->inB 49 57 (pk s (p+j))=true):(k < 3->inB 49 57 (pk s (p+k))=false->z2z s p=k)/\(k=3->z2z s p=3):=by
 unfold z2z;have h0:=h 0;have h1:=h 1;have h2:=h 2;simp only[Nat.add_zero] at h0;constructor
 ·intro hlt hf
  obtain rfl | rfl | rfl:k=0\/k=1\/k=2:=by omega
  ·simp at hf; simp[hf]
  ·simp[h0 (by omega),hf]
  ·simp[h0 (by omega),h1 (by omega),hf]
 ·intro e; subst e
  simp[h0 (by omega),h1 (by omega),h2 (by omega)]
theorem offB_lt (c:Nat) (h:c < 256):offB 49 57 c<=8:=by
 unfold offB inB; split
 ·rename_i h; simp at h; omega
 ·omega
set_option maxHeartbeats 1000000 in
theorem times_c (b l:Nat) (s:ByteArray) (p:Nat) (w:World) (h:Cur w b s p) (hL:LCell w l (.int .i64 0) (.int .i64 0) (.int .i64 0) (.slice none 0 0) (.slice none 0 0) (.slice none 0 0)) (hs:s.size<=256) (hp:p<=s.size) (hbl:b≠l) :
  Calls Tryz.prog 155 #[.pointer (some ⟨b,0,none⟩),.pointer (some ⟨l,0,none⟩)] w fun e w'=>∃(t d q:Int),e=.returned (.bool (z2z s p==3)) ∧
   LCell w' l (.int .i64 t) (.int .i64 d) (.int .i64 q) (.slice none 0 0) (.slice none 0 0) (.slice none 0 0)/\(z2z s p=3->t=((pk s p - 48:Nat):Int)/\d=((pk s (p+1) - 48:Nat):Int)/\q=((pk s (p+2) - 48:Nat):Int))/\Cur w' b s (p+z2z s p)/\p+z2z s p<=s.size/\G2 w w' b l:=by
 have hbw:=h.cells.2.2.2.2;have hlw:=z0g hL;have hne1:w.heap.size≠b:=by omega
 have hne2:w.heap.size≠l:=by omega
 have hTN:=zh (timesN_at s p);generalize hN:z2z s p=N at *;have HN:=zh hN;clear hN;have A:=zh (And.intro h hL);clear h hL;go_enter Tryz.func155,Tryz.ntmps155
 go_wp2
 go_loopw [6] (fun i wr=>∃k:Nat,i=.int .i64 k/\k<=3/\(∀j,j < k->inB 49 57 (pk s (p+j))=true)/\Cur wr b s (p+k)/\p+k<=s.size ∧
   LCell wr l (.int .i64 0) (.int .i64 0) (.int .i64 0) (.slice none 0 0) (.slice none 0 0) (.slice none 0 0)/\wr.heap[w.heap.size]?=some (.cells #[dig s p k 0,dig s p k 1,dig s p k 2] 220 (0,0))/\G2 w wr b l) (fun i _=>3 - (intOf i).toNat)
 case atStart=>exact⟨0,rfl,by omega,fun j h=>by omega,(uh A).1.alloc _,hp,(Below.heap_alloc _ _ _ hlw).trans (uh A).2,heap_alloc_new w _,(G2.refl w b l).alloc _⟩
 case round=>
  clear A;obtain⟨k,rfl,hk,hall,hC,hle,hLc,hT,hG⟩:=hrel;have hT1:=zh ((uh hTN) k hk hall);obtain⟨⟨y0,y1,y2⟩,⟨f0,f1,f2⟩,qt⟩:=tri0 hT;obtain⟨⟨x0,x1,x2,x3,x4,x5⟩,⟨g0,g1,g2,g3,g4,g5⟩,ql⟩:=six0 hLc;have H1:=zh (z4z b s (p+k) 49 57 wr hC hle hs (by omega) (by omega));by_cases hlt:k < 3
  ·have hc256:=pk_lt s (p+k)
   cases hin:inB 49 57 (pk s (p+k)) with
   | false=>
    rw[hin] at H1;have hNk:N=k:=(uh hT1).1 hlt hin;subst hNk;have F:=zh (And.intro hLc hG);have hne3:(N==3)=false:=by simp; omega
    clear hT hC hLc hG hin y0 y1 y2 f0 f1 f2 qt x0 x1 x2 x3 x4 x5 g0 g1 g2 g3 g4 g5 ql;go_wp2_with fail
    refine(uh H1).mono ?_;rintro e w1 ⟨rfl,a1,a2,a3⟩;have B:=zh (And.intro (z1t (uh F).1 a3 (Ne.symm hbl)) (And.intro a1 (And.intro a2 ((uh F).2.gr a3))));clear a1 a2 a3;go_wp2
    go_ret
    exact⟨0,0,0,z04 hne3.symm,(uh B).1,fun h=>absurd h (by omega),(uh B).2.1,(uh B).2.2.1,(uh B).2.2.2⟩
   | true=>
    rw[hin] at H1;have hofl:=offB_lt _ hc256;have HALL:=zh (show ∀j,j < k+1->inB 49 57 (pk s (p+j))=true by
     intro j hj;rcases Nat.lt_or_ge j k with h | h
     ·exact hall j h
     ·obtain rfl:j=k:=by omega
      exact hin)
    have F:=zh (And.intro hT (And.intro hLc hG));clear hT hC hLc hG hin hall;obtain⟨o,ho⟩:∃o,o=offB 49 57 (pk s (p+k)):=⟨_,rfl⟩
    rw[<-ho] at H1 hofl;have HO:=zh ho;clear ho x0 x1 x2 x3 x4 x5 g0 g1 g2 g3 g4 g5 ql;go_wp2_with fail
    refine(uh H1).mono ?_;rintro e w1 ⟨rfl,a1,a2,a3⟩;have hT4:=z1t (uh F).1 a3 hne1;obtain⟨⟨z0,z1,z2⟩,⟨u0,u1,u2⟩,qz⟩:=tri0 hT4;have B:=zh (And.intro hT4 (And.intro (z1t (uh F).2.1 a3 (Ne.symm hbl)) (And.intro a1 (And.intro a2 ((uh F).2.2.gr a3)))));clear a1 a2 a3 hT4 y0 y1 y2 f0 f1 f2 qt;have hkk:k=0\/k=1\/k=2:=by omega
    rcases hkk with rfl | rfl | rfl
    ·go_wp2
     have hbs:=z0b (j:=0) (.int .i64 ((o:Int)+1)) (uh B).1;refine⟨⟨1,by first | rfl | go_num,by omega,uh HALL,(uh B).2.2.1.setCell _ _ _ (Ne.symm hne1),(uh B).2.2.2.1,(Below.heap_setCell _ _ _ _ (Ne.symm hne2)).trans (uh B).2.1,?_,(uh B).2.2.2.2.setn _ _ _ (Nat.le_refl _)⟩,by simp[intOf]⟩;rw[hbs];have ho:=uh HO;simp[dig,ho]
    ·go_wp2
     have hbs:=z0b (j:=1) (.int .i64 ((o:Int)+1)) (uh B).1;refine⟨⟨2,by first | rfl | go_num,by omega,uh HALL,(uh B).2.2.1.setCell _ _ _ (Ne.symm hne1),(uh B).2.2.2.1,(Below.heap_setCell _ _ _ _ (Ne.symm hne2)).trans (uh B).2.1,?_,(uh B).2.2.2.2.setn _ _ _ (Nat.le_refl _)⟩,by simp[intOf]⟩;rw[hbs];have ho:=uh HO;simp[dig,ho]
    ·go_wp2
     have hbs:=z0b (j:=2) (.int .i64 ((o:Int)+1)) (uh B).1;refine⟨⟨3,by first | rfl | go_num,by omega,uh HALL,(uh B).2.2.1.setCell _ _ _ (Ne.symm hne1),(uh B).2.2.2.1,(Below.heap_setCell _ _ _ _ (Ne.symm hne2)).trans (uh B).2.1,?_,(uh B).2.2.2.2.setn _ _ _ (Nat.le_refl _)⟩,by simp[intOf]⟩;rw[hbs];have ho:=uh HO;simp[dig,ho]
  ·obtain rfl:k=3:=by omega
   have HN3:=zh ((uh hT1).2 rfl);have hd:∀j,j < 3->dig s p 3 j=.int .i64 ((pk s (p+j) - 48:Nat):Int):=by
    intro j hj;have hin:=hall j hj;unfold dig;rw[if_pos hj];unfold offB;rw[hin,if_pos rfl];unfold inB at hin;simp only[Bool.and_eq_true,decide_eq_true_eq] at hin;rw[show pk s (p+j) - 49+1=pk s (p+j) - 48 by omega]
   have e0:=hd 0 (by omega);have e1:=hd 1 (by omega);have e2:=hd 2 (by omega);rw[e0] at y0;rw[e1] at y1;rw[e2] at y2;simp only[Nat.add_zero] at y0;have hl1:=z0b (j:=0) (.int .i64 ((pk s p - 48:Nat):Int)) hLc;have hl2:=z0b (j:=1) (.int .i64 ((pk s (p+1) - 48:Nat):Int)) hl1;have hl3:=z0b (j:=2) (.int .i64 ((pk s (p+2) - 48:Nat):Int)) hl2;have F:=zh (And.intro hl3 (And.intro hC (And.intro hle hG)));clear hT hC hLc hG hl1 hl2 hl3 e0 e1 e2 hd H1 hT1;obtain⟨A0,hA0⟩:∃A0,A0=pk s p - 48:=⟨_,rfl⟩
   obtain⟨A1,hA1⟩:∃A1,A1=pk s (p+1) - 48:=⟨_,rfl⟩
   obtain⟨A2,hA2⟩:∃A2,A2=pk s (p+2) - 48:=⟨_,rfl⟩
   rw[<-hA0] at y0 F;rw[<-hA1] at y1 F;rw[<-hA2] at y2 F;have HA:=zh (And.intro hA0 (And.intro hA1 hA2));clear hA0 hA1 hA2;go_wp2
   go_ret
   obtain⟨F1,F2,F3,F4⟩:=uh F;obtain⟨g1,g2,g3⟩:=uh HA;exact⟨_,_,_,z04 (by rw[uh HN3]; rfl),F1,fun _=>⟨by rw[g1],by rw[g2],by rw[g3]⟩,by rw[uh HN3]; exact((F2.setCell _ _ _ hbl).setCell _ _ _ hbl).setCell _ _ _ hbl,by rw[uh HN3]; exact F3,((F4.set _ _).set _ _).set _ _⟩
theorem Tryz.infoRt:(Tryz.prog.info? 113).map (fun i=>(i.zero,i.size,i.bytes))=some (some (.agg #[.int .i64 0,.slice none 0 0,.slice none 0 0]),3,56):=by kernel_rfl
def Rts (w:World) (v:Value) (l:List Rt):Prop:=SlAt 113 3 CRt w v l
theorem Rts.keep {w w':World} {v:Value} {l:List Rt} (h:Rts w v l) (k:Keeps 113 w w') (k1:Keeps 168 w w'):Rts w' v l:=SlAt.keep h k (fun _ _ h=>h.keep k1)
def CRtL (n:Nat) (w:World) (r:Rt) (cs:List Value):Prop:=CRt w r cs/\LoC n cs
theorem CRtL.keep {n:Nat} {w w':World} {r:Rt} {cs:List Value} (h:CRtL n w r cs) (k:Keeps 168 w w'):CRtL n w' r cs:=⟨h.1.keep k,h.2⟩
def RtsL (n:Nat) (w:World) (v:Value) (l:List Rt):Prop:=SlAt 113 3 (CRtL n) w v l
theorem RtsL.keep {n:Nat} {w w':World} {v:Value} {l:List Rt} (h:RtsL n w v l) (k:Keeps 113 w w') (k1:Keeps 168 w w'):RtsL n w' v l:=SlAt.keep h k (fun _ _ h=>h.keep k1)
theorem RtsL.weak {n:Nat} {w:World} {v:Value} {l:List Rt} (h:RtsL n w v l):Rts w v l:=SlAt.weak h (fun _ _ h=>h.1)
theorem RtsL.mono {n m:Nat} {w:World} {v:Value} {l:List Rt} (h:RtsL n w v l) (hm:m<=n):RtsL m w v l:=SlAt.weak h (fun _ _ h=>⟨h.1,h.2.mono hm⟩)
def rtsL (s:ByteArray):Nat->Nat->Bool×Nat×List Rt
 | 0,p=>(false,p,[])
 | f+1,p=>if (z15 s p).1=false then (false,(z15 s p).2.1,[])
  else if (pk s (z15 s p).2.1==44)=true then ((rtsL s f ((z15 s p).2.1+1)).1,(rtsL s f ((z15 s p).2.1+1)).2.1,(z15 s p).2.2 :: (rtsL s f ((z15 s p).2.1+1)).2.2)
  else (true,(z15 s p).2.1,[(z15 s p).2.2])
theorem adv_ge (c:Bool) (p:Nat):p<=adv c p:=by unfold adv; split <;> omega
theorem pathL_ge (s:ByteArray):∀f p,p<=(pathL s f p).2:=by
 intro f
 induction f with
 | zero=>intro p; exact Nat.le_refl _
 | succ f ih=>
  intro p;unfold pathL;split
  ·exact Nat.le_trans (Nat.le_trans (by omega) (adv_ge _ (p+1))) (ih _)
  ·exact Nat.le_refl _
theorem flankL_ge (s:ByteArray):∀f p,p<=(z11 s f p).2.1:=by
 intro f
 induction f with
 | zero=>intro p; exact Nat.le_refl _
 | succ f ih=>
  intro p;unfold z11;split
  ·split
   ·show p<=p+1; omega
   ·exact Nat.le_trans (by omega) (ih (p+2))
  ·exact Nat.le_refl _
theorem routeL_ge (s:ByteArray) (p:Nat) (h:(z15 s p).1=true):p+2<=(z15 s p).2.1:=by
 unfold z15 at h ⊢;have h1:=pathL_ge s 300 (p+2);have h2:=flankL_ge s 300 ((pathL s 300 (p+2)).2+1);by_cases c1:inB 97 112 (pk s p)=false
 ·rw[if_pos c1] at h; cases h
 rw[if_neg c1] at h ⊢;by_cases c2:(pk s (p+1)==62)=false
 ·rw[if_pos c2] at h; cases h
 rw[if_neg c2] at h ⊢;by_cases c3:(pathL s 300 (p+2)).1.length=0
 ·rw[if_pos c3] at h; cases h
 rw[if_neg c3] at h ⊢;split
 ·exact h1
 ·show p+2<=(z11 s 300 ((pathL s 300 (p+2)).2+1)).2.1; omega
set_option maxHeartbeats 1000000 in
theorem routes_clo (b l:Nat) (s:ByteArray) (p:Nat) (t d q:Int) (as_:Option Addr) (ns cs:Nat) (w:World) (h:Cur w b s p) (hL:LCell w l (.int .i64 t) (.int .i64 d) (.int .i64 q) (.slice as_ ns cs) (.slice none 0 0) (.slice none 0 0)) (hs:s.size<=256) (hp:p<=s.size) (hbl:b≠l) :
  Calls Tryz.prog 158 #[.pointer (some ⟨b,0,none⟩),.pointer (some ⟨l,0,none⟩)] w fun e w'=>∃(a1:Option Addr) (n1 c1:Nat),e=.returned (.bool (rtsL s 300 p).1) ∧
   LCell w' l (.int .i64 t) (.int .i64 d) (.int .i64 q) (.slice as_ ns cs) (.slice a1 n1 c1) (.slice none 0 0)/\((rtsL s 300 p).1=true->RtsL w.heap.size w' (.slice a1 n1 c1) (rtsL s 300 p).2.2)/\Cur w' b s (rtsL s 300 p).2.1/\(rtsL s 300 p).2.1<=s.size/\G2 w w' b l/\Lo w.heap.size (.slice a1 n1 c1):=by
 have hbw:=h.cells.2.2.2.2;have hlw:=z0g hL;obtain⟨i0,hi0⟩:=info_parts Tryz.infoRt;have HI:=zh hi0;clear hi0;obtain⟨Z,hZ⟩:∃Z,Z=rtsL s 300 p:=⟨_,rfl⟩
 rw[<-hZ];have A:=zh (And.intro h (And.intro hL hZ));clear h hL hZ;go_enter Tryz.func158,Tryz.ntmps158
 go_wp2
 go_loopg [5] 300 (fun f m wr=>∃(mv:Bool) (q':Nat) (acc:List Rt) (css:List (List Value)) (vr:Value),m=.bool mv/\acc.length<=q'/\q'<=s.size/\(mv=true->s.size < q'+f) ∧
   wr.ownsRow w.heap.size 113 3 vr acc.length css.flatten/\All2 (CRtL w.heap.size wr) acc css/\(∀c,c∈css->c.length=3) ∧
   (mv=true->Z=((rtsL s f q').1,(rtsL s f q').2.1,acc++(rtsL s f q').2.2))/\(mv=false->Z=(true,q',acc)) ∧
   LCell wr l (.int .i64 t) (.int .i64 d) (.int .i64 q) (.slice as_ ns cs) vr (.slice none 0 0)/\Cur wr b s q'/\G2 w wr b l)
 case atStart=>exact⟨true,p,[],[],_,rfl,Nat.zero_le _,hp,fun _=>by omega,World.ownsRow_nil _ _ _ _,trivial,by simp,fun _=>(uh A).2.2,fun h=>(by cases h),(uh A).2.1,(uh A).1,G2.refl _ _ _⟩
 case round=>
  clear A;obtain⟨mv,q',acc,css,vr,rfl,hac,hq,hf,hown,hA,hcl,hZ1,hZ2,hLc,hC,hG⟩:=hrel;have FLO:=zh (Lo.of hown);obtain⟨av,cv,hvr⟩:=z02 hown;subst hvr;have hsz:=hG.2.2.2.1;cases mv with
  | false=>
   have HZ:=zh (hZ2 rfl);have F:=zh (And.intro hLc (And.intro (show RtsL w.heap.size wr (.slice av acc.length cv) acc from SlAt.ofOwnN hown hA hcl rfl) (And.intro hC (And.intro hq hG))));clear hown hA hcl hZ1 hZ2 hLc hC hG hf;go_wp2
   go_ret
   obtain⟨F1,F2,F3,F4,F5⟩:=uh F;exact⟨av,acc.length,cv,by rw[uh HZ] <;> rfl,F1,fun _=>by rw[uh HZ]; exact F2,by rw[uh HZ]; exact F3,by rw[uh HZ]; exact F4,F5,uh FLO⟩
  | true=>
   have hf':=hf rfl;obtain⟨f,hfe⟩:∃f,gk=f+1:=⟨gk - 1,by omega⟩
   subst hfe;have HZ:=zh (hZ1 rfl);have H1:=zh (route_clo b s q' wr hC hs hq);have HGE:=zh (routeL_ge s q');have F:=zh (And.intro hLc (And.intro hA (And.intro hcl hG)));have hTc:=zh hC.typed;clear hA hcl hZ1 hZ2 hLc hC hG hf;obtain⟨RL,hRL⟩:∃RL,RL=z15 s q':=⟨_,rfl⟩
   have HRL:=zh hRL;rw[<-hRL] at H1 HGE;clear hRL;go_wp2_with fail
   refine(uh H1).mono ?_;rintro e w1 ⟨tt,a1,a2,n1,n2,c1,c2,rfl,hR,hC1,hle1,hg1,hlo1⟩;have HLO1:=zh (hlo1.mono (m:=w.heap.size) hsz);clear hlo1;have hL1:=z1t (uh F).1 hg1 (Ne.symm hbl);have hown1:=own_gr hown hg1 hbw;have hG1:=(uh F).2.2.2.gr hg1;have hk1:=z3o (e:=168) (uh hTc) hg1 (by decide);have F1:=zh (And.intro hL1 (And.intro hC1 (And.intro hle1 (And.intro hG1 (And.intro hR hk1)))));clear hR hC1 hle1 hg1 hown hG1 hk1;have hsz1:w.heap.size<=w1.heap.size:=(uh F1).2.2.2.1.2.2.2.1;cases hok:RL.1 with
   | false=>
    have HZ2:=zh (show Z=(false,RL.2.1,acc) by rw[uh HZ]; simp[rtsL,<-uh HRL,hok]);clear hok HZ hown1;go_wp2
    go_ret
    exact⟨av,acc.length,cv,by rw[uh HZ2] <;> rfl,(Below.heap_alloc _ _ _ (z0g (uh F1).1)).trans (uh F1).1,fun h=>absurd h (by rw[uh HZ2]; simp),by rw[uh HZ2]; exact(uh F1).2.1.alloc _,by rw[uh HZ2]; exact(uh F1).2.2.1,(uh F1).2.2.2.1.alloc _,uh FLO⟩
   | true=>
    have HOK:=zh hok;have HR:=zh ((uh F1).2.2.2.2.1 hok);obtain⟨⟨y0,y1,y2,y3,y4,y5⟩,⟨f0,f1,f2,f3,f4,f5⟩,ql⟩:=six0 hL1;have hlne:l < w1.heap.size:=ql;clear hok hL1;go_wp2
    go_region_law (refine z1z rfl (.tmp 20) (.tmp 22) 79 rfl w.heap.size 113 i0 (.agg #[.int .i64 0,.slice none 0 0,.slice none 0 0]) 3 56 Tryz.underlying79 (uh HI).1 (uh HI).2.1 (uh HI).2.2.1 (uh HI).2.2.2 rfl (by decide) (.slice av acc.length cv) _ _ (by simp[Act.eval]) (((hown1.alloc _).alloc _).drew) ⟨w1.heap.size+1,0,none⟩ 1 1 [.int .i64 tt,.slice a1 n1 c1,.slice a2 n2 c2] (by simp[Act.eval]) rfl (by exact z0t _ [.int .i64 tt,.slice a1 n1 c1,.slice a2 n2 c2] _ _ (by simp)) (by simp[Value.oneCell']) (by unfold maxLen; omega) (by omega) (by simp; omega) ?_; intro v' w2 hown' hgrow; have hg2:=z20 hgrow; have hL2:=(z0f (hown1.alloc _) hg2 (by decide) _ _ _ ((Below.heap_alloc _ _ _ hlne).trans (uh F1).1)).trans ((Below.heap_alloc _ _ _ hlne).trans (uh F1).1); obtain⟨⟨r0,r1,r2,r3,r4,r5⟩,⟨g0,g1,g2,g3,g4,g5⟩,qs1⟩:=six0 hL2; obtain⟨av',cv',hv'⟩:=z02 hown'; subst hv'; have HF2:=zh (And.intro hL2 (And.intro ((((uh F1).2.1.alloc _).own (hown1.alloc _) hg2 (by decide))) (((uh F1).2.2.2.1.alloc _).own (Nat.le_refl _) (hown1.alloc _) hg2))); clear hL2)
    all_goals
     have hT3:Typed w2 l 82:=⟨_,_,(uh HF2).1⟩
     have hC3:=(uh HF2).2.1.setCell l 4 (.slice av' (acc.length+1) cv') hbl;have hL3:=zh (z0b (j:=4) (.slice av' (acc.length+1) cv') (uh HF2).1);have hG3:=zh ((uh HF2).2.2.set 4 (.slice av' (acc.length+1) cv'));have hown3:=zh (z3e hown' l 4 (.slice av' (acc.length+1) cv') hT3 (by decide));have kk1:=((Keeps.alloc 168 w1 _).trans (z0f (hown1.alloc _) hg2 (by decide))).trans (Keeps.setCell ⟨l,4,none⟩ (.slice av' (acc.length+1) cv') hT3 (by decide));have hA3:=zh (All2.snoc ⟨(uh HR).keep kk1,uh HLO1⟩ (All2.mono (fun _ _ h=>(h.keep (uh F1).2.2.2.2.2).keep kk1) (uh F).2.1));have HT:=zh (z3m b s RL.2.1 44 _ hC3 hs (uh F1).2.2.1 (by omega));have hTc3:=zh hC3.typed;clear hown' hgrow hg2 hown1 hC3 kk1 hT3;go_wp2_with fail
     refine(uh HT).mono ?_;rintro e w4 ⟨rfl,b1,b2,b3⟩;have hge:=uh HGE (uh HOK);have hae:=adv_ge (pk s RL.2.1==44) RL.2.1;have hk4:=z3o (e:=168) (uh hTc3) b3 (by decide);have hown4:=own_gr (uh hown3) b3 hbw;go_wp2
     go_roundg f
     case measure=>omega
     case rel=>
      refine⟨(pk s RL.2.1==44),adv (pk s RL.2.1==44) RL.2.1,acc++[RL.2.2],css++[[.int .i64 tt,.slice a1 n1 c1,.slice a2 n2 c2]],_,rfl,by simp; omega,b2,fun _=>by omega,?_,All2.mono (fun _ _ h=>h.keep hk4) (uh hA3),?_,fun hm=>?_,fun hm=>?_,z1t (uh hL3) b3 (Ne.symm hbl),b1,(uh hG3).gr b3⟩
      ·rw[List.flatten_append]; simpa using hown4
      ·intro c hc
       rcases List.mem_append.1 hc with h | h
       ·exact(uh F).2.2.1 c h
       ·simp at h; subst h; rfl
      ·have e1:adv (pk s RL.2.1==44) RL.2.1=RL.2.1+1:=by rw[hm]; rfl
       rw[e1,uh HZ];simp only[rtsL,<-uh HRL,uh HOK,hm];simp
      ·have e1:adv (pk s RL.2.1==44) RL.2.1=RL.2.1:=by rw[hm]; rfl
       rw[e1,uh HZ];simp only[rtsL,<-uh HRL,uh HOK,hm];simp
theorem Tryz.infoTn:(Tryz.prog.info? 186).map (fun i=>(i.zero,i.size,i.bytes))=some (some (.agg #[.int .i64 0,.slice none 0 0]),2,32):=by kernel_rfl
def Tns (w:World) (v:Value) (l:List Tn):Prop:=SlAt 186 2 CTn w v l
theorem Tns.keep {w w':World} {v:Value} {l:List Tn} (h:Tns w v l) (k:Keeps 186 w w') (k1:Keeps 3 w w'):Tns w' v l:=SlAt.keep h k (fun _ _ h=>h.keep k1)
def CTnL (n:Nat) (w:World) (r:Tn) (cs:List Value):Prop:=CTn w r cs/\LoC n cs
theorem CTnL.keep {n:Nat} {w w':World} {r:Tn} {cs:List Value} (h:CTnL n w r cs) (k:Keeps 3 w w'):CTnL n w' r cs:=⟨h.1.keep k,h.2⟩
def TnsL (n:Nat) (w:World) (v:Value) (l:List Tn):Prop:=SlAt 186 2 (CTnL n) w v l
theorem TnsL.keep {n:Nat} {w w':World} {v:Value} {l:List Tn} (h:TnsL n w v l) (k:Keeps 186 w w') (k1:Keeps 3 w w'):TnsL n w' v l:=SlAt.keep h k (fun _ _ h=>h.keep k1)
theorem TnsL.weak {n:Nat} {w:World} {v:Value} {l:List Tn} (h:TnsL n w v l):Tns w v l:=SlAt.weak h (fun _ _ h=>h.1)
theorem TnsL.mono {n m:Nat} {w:World} {v:Value} {l:List Tn} (h:TnsL n w v l) (hm:m<=n):TnsL m w v l:=SlAt.weak h (fun _ _ h=>⟨h.1,h.2.mono hm⟩)
def tnsL (s:ByteArray):Nat->Nat->Bool×Nat×List Tn
 | 0,p=>(false,p,[])
 | f+1,p=>if (z1c s p).1=false then (false,(z1c s p).2.1,[])
  else if (pk s (z1c s p).2.1==44)=true then ((tnsL s f ((z1c s p).2.1+1)).1,(tnsL s f ((z1c s p).2.1+1)).2.1,(z1c s p).2.2 :: (tnsL s f ((z1c s p).2.1+1)).2.2)
  else (true,(z1c s p).2.1,[(z1c s p).2.2])
theorem capsL_ge (s:ByteArray):∀f p,p<=(capsL s f p).2:=by
 intro f
 induction f with
 | zero=>intro p; exact Nat.le_refl _
 | succ f ih=>
  intro p;unfold capsL;split
  ·exact Nat.le_trans (by omega) (ih (p+1))
  ·exact Nat.le_refl _
theorem trainL_ge (s:ByteArray) (p:Nat) (h:(z1c s p).1=true):p+1<=(z1c s p).2.1:=by
 unfold z1c at h ⊢;have h1:=capsL_ge s 300 (p+1);by_cases c1:inB 97 112 (pk s p)=false
 ·rw[if_pos c1] at h; cases h
 rw[if_neg c1]; exact h1
set_option maxHeartbeats 1000000 in
theorem trains_clo (b l:Nat) (s:ByteArray) (p:Nat) (t d q:Int) (as_ ar:Option Addr) (ns cs nr cr:Nat) (w:World) (h:Cur w b s p) (hL:LCell w l (.int .i64 t) (.int .i64 d) (.int .i64 q) (.slice as_ ns cs) (.slice ar nr cr) (.slice none 0 0)) (hs:s.size<=256) (hp:p<=s.size) (hbl:b≠l) :
  Calls Tryz.prog 159 #[.pointer (some ⟨b,0,none⟩),.pointer (some ⟨l,0,none⟩)] w fun e w'=>∃(a1:Option Addr) (n1 c1:Nat),e=.returned (.bool (tnsL s 300 p).1) ∧
   LCell w' l (.int .i64 t) (.int .i64 d) (.int .i64 q) (.slice as_ ns cs) (.slice ar nr cr) (.slice a1 n1 c1)/\((tnsL s 300 p).1=true->TnsL w.heap.size w' (.slice a1 n1 c1) (tnsL s 300 p).2.2)/\Cur w' b s (tnsL s 300 p).2.1/\(tnsL s 300 p).2.1<=s.size/\G2 w w' b l/\Lo w.heap.size (.slice a1 n1 c1):=by
 have hbw:=h.cells.2.2.2.2;have hlw:=z0g hL;obtain⟨i0,hi0⟩:=info_parts Tryz.infoTn;have HI:=zh hi0;clear hi0;obtain⟨Z,hZ⟩:∃Z,Z=tnsL s 300 p:=⟨_,rfl⟩
 rw[<-hZ];have A:=zh (And.intro h (And.intro hL hZ));clear h hL hZ;go_enter Tryz.func159,Tryz.ntmps159
 go_wp2
 go_loopg [5] 300 (fun f m wr=>∃(mv:Bool) (q':Nat) (acc:List Tn) (css:List (List Value)) (vr:Value),m=.bool mv/\acc.length<=q'/\q'<=s.size/\(mv=true->s.size < q'+f) ∧
   wr.ownsRow w.heap.size 186 2 vr acc.length css.flatten/\All2 (CTnL w.heap.size wr) acc css/\(∀c,c∈css->c.length=2) ∧
   (mv=true->Z=((tnsL s f q').1,(tnsL s f q').2.1,acc++(tnsL s f q').2.2))/\(mv=false->Z=(true,q',acc)) ∧
   LCell wr l (.int .i64 t) (.int .i64 d) (.int .i64 q) (.slice as_ ns cs) (.slice ar nr cr) vr/\Cur wr b s q'/\G2 w wr b l)
 case atStart=>exact⟨true,p,[],[],_,rfl,Nat.zero_le _,hp,fun _=>by omega,World.ownsRow_nil _ _ _ _,trivial,by simp,fun _=>(uh A).2.2,fun h=>(by cases h),(uh A).2.1,(uh A).1,G2.refl _ _ _⟩
 case round=>
  clear A;obtain⟨mv,q',acc,css,vr,rfl,hac,hq,hf,hown,hA,hcl,hZ1,hZ2,hLc,hC,hG⟩:=hrel;have FLO:=zh (Lo.of hown);obtain⟨av,cv,hvr⟩:=z02 hown;subst hvr;have hsz:=hG.2.2.2.1;cases mv with
  | false=>
   have HZ:=zh (hZ2 rfl);have F:=zh (And.intro hLc (And.intro (show TnsL w.heap.size wr (.slice av acc.length cv) acc from SlAt.ofOwnN hown hA hcl rfl) (And.intro hC (And.intro hq hG))));clear hown hA hcl hZ1 hZ2 hLc hC hG hf;go_wp2
   go_ret
   obtain⟨F1,F2,F3,F4,F5⟩:=uh F;exact⟨av,acc.length,cv,by rw[uh HZ] <;> rfl,F1,fun _=>by rw[uh HZ]; exact F2,by rw[uh HZ]; exact F3,by rw[uh HZ]; exact F4,F5,uh FLO⟩
  | true=>
   have hf':=hf rfl;obtain⟨f,hfe⟩:∃f,gk=f+1:=⟨gk - 1,by omega⟩
   subst hfe;have HZ:=zh (hZ1 rfl);have H1:=zh (train_clo b s q' wr hC hs hq);have HGE:=zh (trainL_ge s q');have F:=zh (And.intro hLc (And.intro hA (And.intro hcl hG)));have hTc:=zh hC.typed;clear hA hcl hZ1 hZ2 hLc hC hG hf;obtain⟨RL,hRL⟩:∃RL,RL=z1c s q':=⟨_,rfl⟩
   have HRL:=zh hRL;rw[<-hRL] at H1 HGE;clear hRL;go_wp2_with fail
   refine(uh H1).mono ?_;rintro e w1 ⟨tt,a1,n1,c1,rfl,hR,hC1,hle1,hg1,hlo1⟩;have HLO1:=zh (hlo1.mono (m:=w.heap.size) hsz);clear hlo1;have hL1:=z1t (uh F).1 hg1 (Ne.symm hbl);have hown1:=own_gr hown hg1 hbw;have hG1:=(uh F).2.2.2.gr hg1;have hk1:=z3o (e:=3) (uh hTc) hg1 (by decide);have F1:=zh (And.intro hL1 (And.intro hC1 (And.intro hle1 (And.intro hG1 (And.intro hR hk1)))));clear hR hC1 hle1 hg1 hown hG1 hk1;have hsz1:w.heap.size<=w1.heap.size:=(uh F1).2.2.2.1.2.2.2.1;cases hok:RL.1 with
   | false=>
    have HZ2:=zh (show Z=(false,RL.2.1,acc) by rw[uh HZ]; simp[tnsL,<-uh HRL,hok]);clear hok HZ hown1;go_wp2
    go_ret
    exact⟨av,acc.length,cv,by rw[uh HZ2] <;> rfl,(Below.heap_alloc _ _ _ (z0g (uh F1).1)).trans (uh F1).1,fun h=>absurd h (by rw[uh HZ2]; simp),by rw[uh HZ2]; exact(uh F1).2.1.alloc _,by rw[uh HZ2]; exact(uh F1).2.2.1,(uh F1).2.2.2.1.alloc _,uh FLO⟩
   | true=>
    have HOK:=zh hok;have HR:=zh ((uh F1).2.2.2.2.1 hok);obtain⟨⟨y0,y1,y2,y3,y4,y5⟩,⟨f0,f1,f2,f3,f4,f5⟩,ql⟩:=six0 hL1;have hlne:l < w1.heap.size:=ql;clear hok hL1;go_wp2
    go_region_law (refine z1z rfl (.tmp 20) (.tmp 22) 80 rfl w.heap.size 186 i0 (.agg #[.int .i64 0,.slice none 0 0]) 2 32 Tryz.underlying80 (uh HI).1 (uh HI).2.1 (uh HI).2.2.1 (uh HI).2.2.2 rfl (by decide) (.slice av acc.length cv) _ _ (by simp[Act.eval]) (((hown1.alloc _).alloc _).drew) ⟨w1.heap.size+1,0,none⟩ 1 1 [.int .i64 tt,.slice a1 n1 c1] (by simp[Act.eval]) rfl (by exact z0t _ [.int .i64 tt,.slice a1 n1 c1] _ _ (by simp)) (by simp[Value.oneCell']) (by unfold maxLen; omega) (by omega) (by simp; omega) ?_; intro v' w2 hown' hgrow; have hg2:=z20 hgrow; have hL2:=(z0f (hown1.alloc _) hg2 (by decide) _ _ _ ((Below.heap_alloc _ _ _ hlne).trans (uh F1).1)).trans ((Below.heap_alloc _ _ _ hlne).trans (uh F1).1); obtain⟨⟨r0,r1,r2,r3,r4,r5⟩,⟨g0,g1,g2,g3,g4,g5⟩,qs1⟩:=six0 hL2; obtain⟨av',cv',hv'⟩:=z02 hown'; subst hv'; have HF2:=zh (And.intro hL2 (And.intro ((((uh F1).2.1.alloc _).own (hown1.alloc _) hg2 (by decide))) (((uh F1).2.2.2.1.alloc _).own (Nat.le_refl _) (hown1.alloc _) hg2))); clear hL2)
    all_goals
     have hT3:Typed w2 l 82:=⟨_,_,(uh HF2).1⟩
     have hC3:=(uh HF2).2.1.setCell l 5 (.slice av' (acc.length+1) cv') hbl;have hL3:=zh (z0b (j:=5) (.slice av' (acc.length+1) cv') (uh HF2).1);have hG3:=zh ((uh HF2).2.2.set 5 (.slice av' (acc.length+1) cv'));have hown3:=zh (z3e hown' l 5 (.slice av' (acc.length+1) cv') hT3 (by decide));have kk1:=((Keeps.alloc 3 w1 _).trans (z0f (hown1.alloc _) hg2 (by decide))).trans (Keeps.setCell ⟨l,5,none⟩ (.slice av' (acc.length+1) cv') hT3 (by decide));have hA3:=zh (All2.snoc ⟨(uh HR).keep kk1,uh HLO1⟩ (All2.mono (fun _ _ h=>(h.keep (uh F1).2.2.2.2.2).keep kk1) (uh F).2.1));have HT:=zh (z3m b s RL.2.1 44 _ hC3 hs (uh F1).2.2.1 (by omega));have hTc3:=zh hC3.typed;clear hown' hgrow hg2 hown1 hC3 kk1 hT3;go_wp2_with fail
     refine(uh HT).mono ?_;rintro e w4 ⟨rfl,b1,b2,b3⟩;have hge:=uh HGE (uh HOK);have hae:=adv_ge (pk s RL.2.1==44) RL.2.1;have hk4:=z3o (e:=3) (uh hTc3) b3 (by decide);have hown4:=own_gr (uh hown3) b3 hbw;go_wp2
     go_roundg f
     case measure=>omega
     case rel=>
      refine⟨(pk s RL.2.1==44),adv (pk s RL.2.1==44) RL.2.1,acc++[RL.2.2],css++[[.int .i64 tt,.slice a1 n1 c1]],_,rfl,by simp; omega,b2,fun _=>by omega,?_,All2.mono (fun _ _ h=>h.keep hk4) (uh hA3),?_,fun hm=>?_,fun hm=>?_,z1t (uh hL3) b3 (Ne.symm hbl),b1,(uh hG3).gr b3⟩
      ·rw[List.flatten_append]; simpa using hown4
      ·intro c hc
       rcases List.mem_append.1 hc with h | h
       ·exact(uh F).2.2.1 c h
       ·simp at h; subst h; rfl
      ·have e1:adv (pk s RL.2.1==44) RL.2.1=RL.2.1+1:=by rw[hm]; rfl
       rw[e1,uh HZ];simp only[tnsL,<-uh HRL,uh HOK,hm];simp
      ·have e1:adv (pk s RL.2.1==44) RL.2.1=RL.2.1:=by rw[hm]; rfl
       rw[e1,uh HZ];simp only[tnsL,<-uh HRL,uh HOK,hm];simp
def CLay (w:World) (v:Value) (L:Lay):Prop:=∃vs vr vt,v=.agg #[.int .i64 L.T,.int .i64 L.D,.int .i64 L.Q,vs,vr,vt]/\Bools w vs L.sw/\Rts w vr L.rts/\Tns w vt L.tns
theorem CLay.below {w w':World} {v:Value} {L:Lay} (h:CLay w v L) (k:Below w.heap.size w w'):CLay w' v L:=by
 obtain⟨vs,vr,vt,e,a,b,c⟩:=h;exact⟨vs,vr,vt,e,a.keep (.below k),b.keep (.below k) (.below k),c.keep (.below k) (.below k)⟩
def CLayL (n:Nat) (w:World) (v:Value) (L:Lay):Prop:=∃vs vr vt,v=.agg #[.int .i64 L.T,.int .i64 L.D,.int .i64 L.Q,vs,vr,vt]/\Bools w vs L.sw/\RtsL n w vr L.rts/\TnsL n w vt L.tns/\Lo n vs/\Lo n vr/\Lo n vt
theorem CLayL.keep {n:Nat} {w w':World} {v:Value} {L:Lay} (h:CLayL n w v L) (k:∀e,82≠e->Keeps e w w'):CLayL n w' v L:=by
 obtain⟨vs,vr,vt,e,a,b,c,d⟩:=h;exact⟨vs,vr,vt,e,a.keep (k _ (by decide)),b.keep (k _ (by decide)) (k _ (by decide)),c.keep (k _ (by decide)) (k _ (by decide)),d⟩
theorem CLayL.below {n:Nat} {w w':World} {v:Value} {L:Lay} (h:CLayL n w v L) (k:Below w.heap.size w w'):CLayL n w' v L:=h.keep (fun _ _=>.below k)
theorem CLayL.lay {n:Nat} {w:World} {v:Value} {L:Lay} (h:CLayL n w v L):CLay w v L:=by
 obtain⟨vs,vr,vt,e,a,b,c,-⟩:=h;exact⟨vs,vr,vt,e,a,b.weak,c.weak⟩
theorem CLayL.mono {n m:Nat} {w:World} {v:Value} {L:Lay} (h:CLayL n w v L) (hm:m<=n):CLayL m w v L:=by
 obtain⟨vs,vr,vt,e,a,b,c,d,f,g⟩:=h;exact⟨vs,vr,vt,e,a,b.mono hm,c.mono hm,d.mono hm,f.mono hm,g.mono hm⟩
def layL (s:ByteArray):Bool×Nat×Lay:=
 if z2z s 0≠3 then (false,z2z s 0,⟨0,0,0,[],[],[]⟩)
 else if (pk s 3==47)=false then (false,3,⟨0,0,0,[],[],[]⟩)
 else if (secL s 300 4).1.length=0 then (false,(secL s 300 4).2,⟨0,0,0,[],[],[]⟩)
 else if (pk s (secL s 300 4).2==47)=false then (false,(secL s 300 4).2,⟨0,0,0,[],[],[]⟩)
 else if (rtsL s 300 ((secL s 300 4).2+1)).1=false then (false,(rtsL s 300 ((secL s 300 4).2+1)).2.1,⟨0,0,0,[],[],[]⟩)
 else if (pk s (rtsL s 300 ((secL s 300 4).2+1)).2.1==47)=false then (false,(rtsL s 300 ((secL s 300 4).2+1)).2.1,⟨0,0,0,[],[],[]⟩)
 else ((tnsL s 300 ((rtsL s 300 ((secL s 300 4).2+1)).2.1+1)).1,(tnsL s 300 ((rtsL s 300 ((secL s 300 4).2+1)).2.1+1)).2.1,
  ⟨pk s 0 - 48,pk s 1 - 48,pk s 2 - 48,(secL s 300 4).1,(rtsL s 300 ((secL s 300 4).2+1)).2.2,(tnsL s 300 ((rtsL s 300 ((secL s 300 4).2+1)).2.1+1)).2.2⟩)
def zeroLay:Obj:=.cells #[.int .i64 0,.int .i64 0,.int .i64 0,.slice none 0 0,.slice none 0 0,.slice none 0 0] 82
theorem g2_blk {w w':World} {b l g:Nat} {o:Obj} (h:w.heap[g]?=some o) (hg:G2 w w' b l) (n1:g≠b) (n2:g≠l):w'.heap[g]?=some o:=by
 rw[hg.2.2.2.2 g (z0g h) n1 n2]; exact h
theorem z3p {w w':World} {b l:Nat} {e e1 e2:TypeId} (hb:Typed w b e1) (hl:Typed w l e2) (hg:G2 w w' b l) (n1:e1≠e) (n2:e2≠e):Keeps e w w':=by
 intro g cur fr h;refine hg.2.2.2.2 g (z0g h) ?_ ?_
 ·intro e'; subst e'
  obtain⟨c,f,h'⟩:=hb;rw[h] at h'; simp at h'; exact n1 h'.2.1.symm
 ·intro e'; subst e'
  obtain⟨c,f,h'⟩:=hl;rw[h] at h'; simp at h'; exact n2 h'.2.1.symm
theorem g2_gr {w w':World} {b l:Nat} (h:G2 w w' b l) (hl:w.heap.size<=l):w.grownBy w' (some b):=
 ⟨h.1,h.2.1,h.2.2.1,h.2.2.2.1,fun k hk hn=>h.2.2.2.2 k hk (by simpa using hn) (by omega)⟩
theorem g2_of_gr {w w':World} {b l:Nat} (h:w.grownBy w' (some b)):G2 w w' b l:=⟨h.os,h.tape,h.output,h.size,fun k hk n1 _=>h.block k hk (by simpa using n1)⟩
def LMid (w wr:World) (b:Nat) (s:ByteArray) (p:Nat) (t d q:Int) (v1 v2 v3:Value):Prop:=
 wr.heap[w.heap.size]?=some zeroLay/\LCell wr (w.heap.size+1) (.int .i64 t) (.int .i64 d) (.int .i64 q) v1 v2 v3/\Cur wr b s p/\p<=s.size/\G2 w wr b (w.heap.size+1)
theorem LMid.take {w wr w1:World} {b:Nat} {s:ByteArray} {p p':Nat} {t d q:Int} {v1 v2 v3:Value} (h:LMid w wr b s p t d q v1 v2 v3) (hb:b < w.heap.size) (hc:Cur w1 b s p') (hp:p'<=s.size) (hg:wr.grownBy w1 (some b)):LMid w w1 b s p' t d q v1 v2 v3:=
 ⟨z1t h.1 hg (by omega),z1t h.2.1 hg (by omega),hc,hp,h.2.2.2.2.gr hg⟩
theorem LMid.step {w wr w1:World} {b:Nat} {s:ByteArray} {p p':Nat} {t d q t' d' q':Int} {v1 v2 v3 v1' v2' v3':Value} (h:LMid w wr b s p t d q v1 v2 v3) (hb:b < w.heap.size) (hl:LCell w1 (w.heap.size+1) (.int .i64 t') (.int .i64 d') (.int .i64 q') v1' v2' v3') (hc:Cur w1 b s p') (hp:p'<=s.size) (hg:G2 wr w1 b (w.heap.size+1)):LMid w w1 b s p' t' d' q' v1' v2' v3':=
 ⟨g2_blk h.1 hg (by omega) (by omega),hl,hc,hp,h.2.2.2.2.trans hg⟩
theorem LMid.keeps {w wr w1:World} {b:Nat} {s:ByteArray} {p:Nat} {t d q:Int} {v1 v2 v3:Value} {e:TypeId} (h:LMid w wr b s p t d q v1 v2 v3) (hg:G2 wr w1 b (w.heap.size+1)) (n1:179≠e) (n2:82≠e):Keeps e wr w1:=
 z3p h.2.2.1.typed ⟨_,_,h.2.1⟩ hg n1 n2
theorem LMid.fin {w wr:World} {b:Nat} {s:ByteArray} {p:Nat} {t d q:Int} {v1 v2 v3:Value} (h:LMid w wr b s p t d q v1 v2 v3) (hb:b < w.heap.size) (u0 u1 u2 u3 u4 u5:Value) :
  Cur ((((((wr.setCell ⟨w.heap.size,0,none⟩ u0).setCell ⟨w.heap.size,1,none⟩ u1).setCell ⟨w.heap.size,2,none⟩ u2).setCell ⟨w.heap.size,3,none⟩ u3).setCell ⟨w.heap.size,4,none⟩ u4).setCell ⟨w.heap.size,5,none⟩ u5) b s p ∧
  w.grownBy ((((((wr.setCell ⟨w.heap.size,0,none⟩ u0).setCell ⟨w.heap.size,1,none⟩ u1).setCell ⟨w.heap.size,2,none⟩ u2).setCell ⟨w.heap.size,3,none⟩ u3).setCell ⟨w.heap.size,4,none⟩ u4).setCell ⟨w.heap.size,5,none⟩ u5) (some b):=by
 have n:b≠w.heap.size:=by omega
 refine⟨(((((h.2.2.1.setCell _ _ _ n).setCell _ _ _ n).setCell _ _ _ n).setCell _ _ _ n).setCell _ _ _ n).setCell _ _ _ n,?_⟩;have g:=g2_gr h.2.2.2.2 (by omega);exact z25 (z25 (z25 (z25 (z25 (z25 g _ _ _ (Nat.le_refl _)) _ _ _ (Nat.le_refl _)) _ _ _ (Nat.le_refl _)) _ _ _ (Nat.le_refl _)) _ _ _ (Nat.le_refl _)) _ _ _ (Nat.le_refl _)
def LShape (v:Value):Prop:=∃(T D Q:Int) (a1 a2 a3:Option Addr) (n1 n2 n3 d1 d2 d3:Nat),v=.agg #[.int .i64 T,.int .i64 D,.int .i64 Q,.slice a1 n1 d1,.slice a2 n2 d2,.slice a3 n3 d3]
set_option maxHeartbeats 2000000 in
theorem layout_clo (b:Nat) (s:ByteArray) (w:World) (h:Cur w b s 0) (hs:s.size<=256) :
  Calls Tryz.prog 126 #[.pointer (some ⟨b,0,none⟩)] w fun e w'=>∃v,e=.returned (.tuple #[v,.bool (layL s).1])/\LShape v ∧
   ((layL s).1=true->CLayL w.heap.size w' v (layL s).2.2)/\Cur w' b s (layL s).2.1/\(layL s).2.1<=s.size/\w.grownBy w' (some b):=by
 have hbw:=h.cells.2.2.2.2;obtain⟨Z,hZ⟩:∃Z,Z=layL s:=⟨_,rfl⟩
 rw[<-hZ];unfold layL at hZ;have HZ:=zh hZ;have M:=zh (show LMid w ((w.alloc zeroLay).alloc zeroLay) b s 0 0 0 0 (.slice none 0 0) (.slice none 0 0) (.slice none 0 0) from ⟨blk1 w _ _,blk2 w _ _,(h.alloc _).alloc _,Nat.zero_le _,((G2.refl w b _).alloc _).alloc _⟩);have hbl:b≠w.heap.size+1:=by omega
 clear h hZ;have H1:=zh (times_c b (w.heap.size+1) s 0 _ (uh M).2.2.1 (uh M).2.1 hs (uh M).2.2.2.1 hbl);simp only[Nat.zero_add] at H1;go_enter Tryz.func126,Tryz.ntmps126
 go_wp2_with fail
 refine(uh H1).mono ?_;rintro e w1 ⟨t,d,q,rfl,a1,a2,a3,a4,a5⟩;have M1:=zh ((uh M).step hbw a1 a3 a4 a5);have HT:=zh a2;clear M H1 a1 a2 a3 a4 a5;have M:=M1;clear M1;by_cases c1:z2z s 0=3
 ·rw[if_neg (by simp[c1])] at HZ
  rw[c1] at M;have hT:=uh HT c1;clear HT;have hb:(z2z s 0==3)=true:=by simp[c1]
  rw[hb];clear hb c1;have H2:=zh (z3m b s 3 47 w1 (uh M).2.2.1 hs (uh M).2.2.2.1 (by omega));go_wp2_with fail
  refine(uh H2).mono ?_;rintro e w2 ⟨rfl,a1,a2,a3⟩;have M2:=zh ((uh M).take hbw a1 a2 a3);clear M H2 a1 a2 a3;have M:=M2;clear M2;have HTT:=zh hT;clear hT;cases h2:(pk s 3==47) with
  | false=>
   rw[h2,if_pos rfl] at HZ;rw[h2] at M;clear h2;obtain⟨⟨r0,r1,r2,r3,r4,r5⟩,⟨e0,e1,e2,e3,e4,e5⟩,qr⟩:=six0 (uh M).1;obtain⟨⟨l0,l1,l2,l3,l4,l5⟩,⟨k0,k1,k2,k3,k4,k5⟩,ql⟩:=six0 (uh M).2.1;have N:=zh ((uh M).fin hbw (.int .i64 t) (.int .i64 d) (.int .i64 q) (.slice none 0 0) (.slice none 0 0) (.slice none 0 0));have P:=zh (uh M).2.2.2.1;go_wp2
   refine bodyPost_ret (v:=.tuple #[.agg #[.int .i64 t,.int .i64 d,.int .i64 q,(.slice none 0 0),(.slice none 0 0),(.slice none 0 0)],.bool false]) (by simp[results,Tryz.results126,go_sem,r0,r1,r2,r3,r4,r5]) rfl ?_;exact⟨_,by rw[uh HZ] <;> rfl,⟨_,_,_,_,_,_,_,_,_,_,_,_,rfl⟩,fun h=>absurd h (by rw[uh HZ]; simp),by rw[uh HZ]; exact(uh N).1,by rw[uh HZ]; exact uh P,(uh N).2⟩
  | true=>
   rw[h2,if_neg (by simp)] at HZ;rw[h2] at M;clear h2;have H3:=zh (sections_clo b (w.heap.size+1) s 4 t d q w2 (uh M).2.2.1 (uh M).2.1 hs (uh M).2.2.2.1 hbl);go_wp2_with fail
   refine(uh H3).mono ?_;rintro e w3 ⟨b1,n1,d1,rfl,a1,a2,a3,a4,a5,alo⟩;have HLS:=zh (alo.mono (m:=w.heap.size) (uh M).2.2.2.2.2.2.2.1);clear alo;have M3:=zh ((uh M).step hbw a1 a3 a4 a5);have HB:=zh a2;clear M H3 a1 a2 a3 a4 a5;have M:=M3;clear M3;by_cases c3:(secL s 300 4).1.length=0
   ·rw[if_pos c3] at HZ
    rw[show decide (0 < (secL s 300 4).1.length)=false from decide_eq_false (by omega)];clear c3;obtain⟨⟨r0,r1,r2,r3,r4,r5⟩,⟨e0,e1,e2,e3,e4,e5⟩,qr⟩:=six0 (uh M).1;obtain⟨⟨l0,l1,l2,l3,l4,l5⟩,⟨k0,k1,k2,k3,k4,k5⟩,ql⟩:=six0 (uh M).2.1;have N:=zh ((uh M).fin hbw (.int .i64 t) (.int .i64 d) (.int .i64 q) (.slice b1 n1 d1) (.slice none 0 0) (.slice none 0 0));have P:=zh (uh M).2.2.2.1;go_wp2
    refine bodyPost_ret (v:=.tuple #[.agg #[.int .i64 t,.int .i64 d,.int .i64 q,(.slice b1 n1 d1),(.slice none 0 0),(.slice none 0 0)],.bool false]) (by simp[results,Tryz.results126,go_sem,r0,r1,r2,r3,r4,r5]) rfl ?_;exact⟨_,by rw[uh HZ] <;> rfl,⟨_,_,_,_,_,_,_,_,_,_,_,_,rfl⟩,fun h=>absurd h (by rw[uh HZ]; simp),by rw[uh HZ]; exact(uh N).1,by rw[uh HZ]; exact uh P,(uh N).2⟩
   ·rw[if_neg c3] at HZ
    rw[show decide (0 < (secL s 300 4).1.length)=true from decide_eq_true (by omega)];clear c3;obtain⟨SE,hSE⟩:∃SE,SE=secL s 300 4:=⟨_,rfl⟩
    rw[<-hSE] at HZ HB M;clear hSE;have H4:=zh (z3m b s SE.2 47 w3 (uh M).2.2.1 hs (uh M).2.2.2.1 (by omega));go_wp2_with fail
    refine(uh H4).mono ?_;rintro e w4 ⟨rfl,a1,a2,a3⟩;have HB4:=zh ((uh HB).keep ((uh M).keeps (g2_of_gr a3) (by decide) (by decide)));have M4:=zh ((uh M).take hbw a1 a2 a3);clear M H4 a1 a2 a3 HB;have M:=M4;clear M4;cases h4:(pk s SE.2==47) with
    | false=>
     rw[h4,if_pos rfl] at HZ;rw[h4] at M;clear h4;obtain⟨⟨r0,r1,r2,r3,r4,r5⟩,⟨e0,e1,e2,e3,e4,e5⟩,qr⟩:=six0 (uh M).1;obtain⟨⟨l0,l1,l2,l3,l4,l5⟩,⟨k0,k1,k2,k3,k4,k5⟩,ql⟩:=six0 (uh M).2.1;have N:=zh ((uh M).fin hbw (.int .i64 t) (.int .i64 d) (.int .i64 q) (.slice b1 n1 d1) (.slice none 0 0) (.slice none 0 0));have P:=zh (uh M).2.2.2.1;go_wp2
     refine bodyPost_ret (v:=.tuple #[.agg #[.int .i64 t,.int .i64 d,.int .i64 q,(.slice b1 n1 d1),(.slice none 0 0),(.slice none 0 0)],.bool false]) (by simp[results,Tryz.results126,go_sem,r0,r1,r2,r3,r4,r5]) rfl ?_;exact⟨_,by rw[uh HZ] <;> rfl,⟨_,_,_,_,_,_,_,_,_,_,_,_,rfl⟩,fun h=>absurd h (by rw[uh HZ]; simp),by rw[uh HZ]; exact(uh N).1,by rw[uh HZ]; exact uh P,(uh N).2⟩
    | true=>
     rw[h4,if_neg (by simp)] at HZ;rw[h4] at M;clear h4;have H5:=zh (routes_clo b (w.heap.size+1) s (SE.2+1) t d q b1 n1 d1 w4 (uh M).2.2.1 (uh M).2.1 hs (uh M).2.2.2.1 hbl);obtain⟨RS,hRS⟩:∃RS,RS=rtsL s 300 (SE.2+1):=⟨_,rfl⟩
     rw[<-hRS] at HZ H5;clear hRS;go_wp2_with fail
     refine(uh H5).mono ?_;rintro e w5 ⟨b2,n2,d2,rfl,a1,a2,a3,a4,a5,alo⟩;have HLR:=zh (alo.mono (m:=w.heap.size) (uh M).2.2.2.2.2.2.2.1);have a2:=fun h=>(a2 h).mono (m:=w.heap.size) (uh M).2.2.2.2.2.2.2.1;clear alo;have HB5:=zh ((uh HB4).keep ((uh M).keeps a5 (by decide) (by decide)));have M5:=zh ((uh M).step hbw a1 a3 a4 a5);have HRS:=zh a2;clear M H5 a1 a2 a3 a4 a5 HB4;have M:=M5;clear M5;cases h5:RS.1 with
     | false=>
      rw[h5,if_pos rfl] at HZ;clear h5;obtain⟨⟨r0,r1,r2,r3,r4,r5⟩,⟨e0,e1,e2,e3,e4,e5⟩,qr⟩:=six0 (uh M).1;obtain⟨⟨l0,l1,l2,l3,l4,l5⟩,⟨k0,k1,k2,k3,k4,k5⟩,ql⟩:=six0 (uh M).2.1;have N:=zh ((uh M).fin hbw (.int .i64 t) (.int .i64 d) (.int .i64 q) (.slice b1 n1 d1) (.slice b2 n2 d2) (.slice none 0 0));have P:=zh (uh M).2.2.2.1;go_wp2
      refine bodyPost_ret (v:=.tuple #[.agg #[.int .i64 t,.int .i64 d,.int .i64 q,(.slice b1 n1 d1),(.slice b2 n2 d2),(.slice none 0 0)],.bool false]) (by simp[results,Tryz.results126,go_sem,r0,r1,r2,r3,r4,r5]) rfl ?_;exact⟨_,by rw[uh HZ] <;> rfl,⟨_,_,_,_,_,_,_,_,_,_,_,_,rfl⟩,fun h=>absurd h (by rw[uh HZ]; simp),by rw[uh HZ]; exact(uh N).1,by rw[uh HZ]; exact uh P,(uh N).2⟩
     | true=>
      have HRS2:=zh (uh HRS h5);rw[h5,if_neg (by simp)] at HZ;clear h5 HRS;have H6:=zh (z3m b s RS.2.1 47 w5 (uh M).2.2.1 hs (uh M).2.2.2.1 (by omega));go_wp2_with fail
      refine(uh H6).mono ?_;rintro e w6 ⟨rfl,a1,a2,a3⟩;have HB6:=zh ((uh HB5).keep ((uh M).keeps (g2_of_gr a3) (by decide) (by decide)));have HR6:=zh ((uh HRS2).keep ((uh M).keeps (g2_of_gr a3) (by decide) (by decide)) ((uh M).keeps (g2_of_gr a3) (by decide) (by decide)));have M6:=zh ((uh M).take hbw a1 a2 a3);clear M H6 a1 a2 a3 HB5 HRS2;have M:=M6;clear M6;cases h6:(pk s RS.2.1==47) with
      | false=>
       rw[h6,if_pos rfl] at HZ;rw[h6] at M;clear h6;obtain⟨⟨r0,r1,r2,r3,r4,r5⟩,⟨e0,e1,e2,e3,e4,e5⟩,qr⟩:=six0 (uh M).1;obtain⟨⟨l0,l1,l2,l3,l4,l5⟩,⟨k0,k1,k2,k3,k4,k5⟩,ql⟩:=six0 (uh M).2.1;have N:=zh ((uh M).fin hbw (.int .i64 t) (.int .i64 d) (.int .i64 q) (.slice b1 n1 d1) (.slice b2 n2 d2) (.slice none 0 0));have P:=zh (uh M).2.2.2.1;go_wp2
       refine bodyPost_ret (v:=.tuple #[.agg #[.int .i64 t,.int .i64 d,.int .i64 q,(.slice b1 n1 d1),(.slice b2 n2 d2),(.slice none 0 0)],.bool false]) (by simp[results,Tryz.results126,go_sem,r0,r1,r2,r3,r4,r5]) rfl ?_;exact⟨_,by rw[uh HZ] <;> rfl,⟨_,_,_,_,_,_,_,_,_,_,_,_,rfl⟩,fun h=>absurd h (by rw[uh HZ]; simp),by rw[uh HZ]; exact(uh N).1,by rw[uh HZ]; exact uh P,(uh N).2⟩
      | true=>
       rw[h6,if_neg (by simp)] at HZ;rw[h6] at M;clear h6;have H7:=zh (trains_clo b (w.heap.size+1) s (RS.2.1+1) t d q b1 b2 n1 d1 n2 d2 w6 (uh M).2.2.1 (uh M).2.1 hs (uh M).2.2.2.1 hbl);obtain⟨TS,hTS⟩:∃TS,TS=tnsL s 300 (RS.2.1+1):=⟨_,rfl⟩
       rw[<-hTS] at HZ H7;clear hTS;go_wp2_with fail
       refine(uh H7).mono ?_;rintro e w7 ⟨b3,n3,d3,rfl,a1,a2,a3,a4,a5,alo⟩;have HLT:=zh (alo.mono (m:=w.heap.size) (uh M).2.2.2.2.2.2.2.1);have a2:=fun h=>(a2 h).mono (m:=w.heap.size) (uh M).2.2.2.2.2.2.2.1;clear alo;have HB7:=zh ((uh HB6).keep ((uh M).keeps a5 (by decide) (by decide)));have HR7:=zh ((uh HR6).keep ((uh M).keeps a5 (by decide) (by decide)) ((uh M).keeps a5 (by decide) (by decide)));have M7:=zh ((uh M).step hbw a1 a3 a4 a5);have HTS:=zh a2;clear M H7 a1 a2 a3 a4 a5 HB6 HR6;have M:=M7;clear M7;have kS:=zh (store6 (⟨_,_,(uh M).1⟩:Typed w7 w.heap.size 82) (.int .i64 t) (.int .i64 d) (.int .i64 q) (.slice b1 n1 d1) (.slice b2 n2 d2) (.slice b3 n3 d3)).1;obtain⟨rfl,rfl,rfl⟩:=uh HTT;obtain⟨⟨r0,r1,r2,r3,r4,r5⟩,⟨e0,e1,e2,e3,e4,e5⟩,qr⟩:=six0 (uh M).1;obtain⟨⟨l0,l1,l2,l3,l4,l5⟩,⟨k0,k1,k2,k3,k4,k5⟩,ql⟩:=six0 (uh M).2.1;have N:=zh ((uh M).fin hbw (.int .i64 ((pk s 0 - 48:Nat):Int)) (.int .i64 ((pk s 1 - 48:Nat):Int)) (.int .i64 ((pk s 2 - 48:Nat):Int)) (.slice b1 n1 d1) (.slice b2 n2 d2) (.slice b3 n3 d3));have P:=zh (uh M).2.2.2.1;go_wp2
       refine bodyPost_ret (v:=.tuple #[.agg #[.int .i64 ((pk s 0 - 48:Nat):Int),.int .i64 ((pk s 1 - 48:Nat):Int),.int .i64 ((pk s 2 - 48:Nat):Int),(.slice b1 n1 d1),(.slice b2 n2 d2),(.slice b3 n3 d3)],.bool TS.1]) (by simp[results,Tryz.results126,go_sem,r0,r1,r2,r3,r4,r5]) rfl ?_;exact⟨_,by rw[uh HZ] <;> rfl,⟨_,_,_,_,_,_,_,_,_,_,_,_,rfl⟩,fun h=>by rw[uh HZ] at h ⊢; exact CLayL.keep ⟨_,_,_,rfl,uh HB7,uh HR7,uh HTS h,uh HLS,uh HLR,uh HLT⟩ (uh kS),by rw[uh HZ]; exact(uh N).1,by rw[uh HZ]; exact uh P,(uh N).2⟩
 ·rw[if_pos c1] at HZ
  have hb:(z2z s 0==3)=false:=by simpa using c1
  rw[hb];clear hb c1 HT;obtain⟨⟨r0,r1,r2,r3,r4,r5⟩,⟨e0,e1,e2,e3,e4,e5⟩,qr⟩:=six0 (uh M).1;obtain⟨⟨l0,l1,l2,l3,l4,l5⟩,⟨k0,k1,k2,k3,k4,k5⟩,ql⟩:=six0 (uh M).2.1;have N:=zh ((uh M).fin hbw (.int .i64 t) (.int .i64 d) (.int .i64 q) (.slice none 0 0) (.slice none 0 0) (.slice none 0 0));have P:=zh (uh M).2.2.2.1;go_wp2
  refine bodyPost_ret (v:=.tuple #[.agg #[.int .i64 t,.int .i64 d,.int .i64 q,(.slice none 0 0),(.slice none 0 0),(.slice none 0 0)],.bool false]) (by simp[results,Tryz.results126,go_sem,r0,r1,r2,r3,r4,r5]) rfl ?_;exact⟨_,by rw[uh HZ] <;> rfl,⟨_,_,_,_,_,_,_,_,_,_,_,_,rfl⟩,fun h=>absurd h (by rw[uh HZ]; simp),by rw[uh HZ]; exact(uh N).1,by rw[uh HZ]; exact uh P,(uh N).2⟩
end Go.Proofs.YtkbpocecbcaiiabGreatDoor
