import Derived.Test.YtkbpocecbcaiiabGreatDoorO1
import Derived.Deep.RegionLaw
import Derived.Deep.LoopGhost
namespace Go.Proofs.YtkbpocecbcaiiabGreatDoor
open Go.RowKit
theorem Keeps.alloc (e:TypeId) (w:World) (o:Obj):Keeps e w (w.alloc o):=Keeps.below (z01 w o)
theorem Keeps.drew (e:TypeId) (w:World):Keeps e w w.drew:=fun _ _ _ _=>rfl
theorem z0f {B:Nat} {wr w1:World} {o:Obj} {v:Value} {e e':TypeId} {size n:Nat} {xs:List Value}
  (hown:wr.ownsRow B e size v n xs) (hg:(wr.alloc o).grownBy w1 v.ownBlock) (hne:e≠e'):Keeps e' wr w1:=by
 intro b cur fr hb;have hlt:b < wr.heap.size:=by
  rcases Nat.lt_or_ge b wr.heap.size with h | h
  ·exact h
  ·rw[Array.getElem?_eq_none h] at hb; cases hb
 have h1:(wr.alloc o).heap[b]?=wr.heap[b]?:=Below.heap_alloc _ _ _ hlt;rw[<-h1];refine hg.block b (by simp; omega) ?_;intro hrow;rcases hown.2 with ⟨rfl,-⟩ | ⟨g,cap,cur',rfl,-,hg',-⟩
 ·cases hrow
 ·simp only[Value.ownBlock,Option.some.injEq] at hrow
  subst hrow;rw[hb] at hg';simp at hg';exact hne hg'.2.1.symm
theorem z0j {b:Nat} {w w':World} {e:TypeId} {size n:Nat} {v:Value} {xs:List Value} (h:w.ownsRow b e size v n xs) (hb:Below w.heap.size w w'):w'.ownsRow b e size v n xs:=by
 refine⟨h.1,?_⟩;rcases h.2 with h2 | ⟨g,cap,cur,hv,hg,hh,r⟩
 ·exact .inl h2
 ·refine .inr ⟨g,cap,cur,hv,hg,?_,r⟩
  rw[hb.block g ((h.lt g (by rw[hv]; rfl)).2)]; exact hh
theorem z06 {b:Nat} {w w':World} {e:TypeId} {size n:Nat} {v:Value} {xs:List Value} (h:w.ownsRow b e size v n xs) (hk:Keeps e w w'):w'.ownsRow b e size v n xs:=by
 refine⟨h.1,?_⟩;rcases h.2 with h2 | ⟨g,cap,cur,hv,hg,hh,r⟩
 ·exact .inl h2
 ·exact .inr ⟨g,cap,cur,hv,hg,(hk g cur (0,0) hh).trans hh,r⟩
theorem z1z {P:Program} {w:World} {ops:Array Oper} {o:Oper} {a:Act} {K:Act->World->Prop} {Q:Exit->Act->World->Prop} {E:Prop} (hgd:o.guard=none) (s x:Operand) (t:TypeId)
  (ho:o.op=.call { callee:=.builtin .append,args:=#[s,x],argTypes:=#[t,t] })
  (base:Nat) (e:TypeId) (i:TypeInfo) (z:Value) (size bytes:Nat) (ht:P.underlying t=some (.slice e)) (hi:P.info? e=some i) (hz:i.zero=some z)
  (hsize:i.size=size) (hby:i.bytes=bytes) (hzs:z.cells.size=size) (hsz:0 < size)
  (v:Value) (n:Nat) (xs:List Value) (hs:a.eval s=v) (hown:w.ownsRow base e size v n xs)
  (ad:Addr) (m c:Nat) (news:List Value) (hx:a.eval x=.slice (some ad) m c) (hl:news.length=m*size) (hnews:∀j u,news[j]?=some u->w.cell? (ad.add j)=some u) (h1:∀u∈news,u.oneCell'=true)
  (h63:n+m<=maxLen) (hbytes:(n+m)*bytes<=140737488355328) (hbase:base<=w.heap.size)
  (h:∀v' w',w'.ownsRow base e size v' (n+m) (xs++news)->w.grownBy w' v.ownBlock->K (a.put o.dst v') w') :
  if Region.wanted o (yielded ops a.tmps)=true then Oper.wp P o a w K Q else E:=by
 have hw:Region.wanted o (yielded ops a.tmps)=true:=by simp[Region.wanted,hgd]
 rw[if_pos hw];exact wp_append_own w s x t ho base e i z size bytes ht hi hz hsize hby hzs hsz v n xs hs hown ad m c news hx hl hnews h1 h63 hbytes hbase (fun v' w' a b _=>h v' w' a b)
theorem z29 (w:World) (x:Value) (t:TypeId):∀(j:Nat) (u:Value),[x][j]?=some u->((w.alloc (.cells #[x] t)).drew).cell? ((⟨w.heap.size,0,none⟩:Addr).add j)=some u:=z0q w x t
theorem z20 {w w1:World} {r:Option Nat} (h:w.drew.grownBy w1 r):w.grownBy w1 r:=⟨h.os,h.tape,h.output,h.size,h.block⟩
theorem z02 {w:World} {b:Nat} {e:TypeId} {size n:Nat} {v:Value} {xs:List Value} (h:w.ownsRow b e size v n xs):∃ah ch,v=.slice ah n ch:=by
 rcases h.2 with ⟨h,h0⟩ | ⟨g,cap,cur,h,-⟩
 ·exact⟨none,0,by rw[h,h0]⟩
 ·exact⟨_,_,h⟩
theorem z0b {w:World} {g j:Nat} {cur:Array Value} {e:TypeId} (u:Value) (h:w.heap[g]?=some (.cells cur e (0,0))):(w.setCell ⟨g,j,none⟩ u).heap[g]?=some (.cells (cur.setIfInBounds j u) e (0,0)):=
 heap_setCell_same w g j cur e u h
theorem z07 {w:World} {g:Nat} {cur:Array Value} {e:TypeId} (h:w.heap[g]?=some (.cells cur e (0,0))) (j:Nat):w.cell? ⟨g,j,none⟩=cur[j]?:=z1j h j
theorem z0c {w:World} {g:Nat} {cur:Array Value} {e:TypeId} (h:w.heap[g]?=some (.cells cur e (0,0))) (j:Nat):w.frozen? ⟨g,j,none⟩=false:=by
 simp[World.frozen?,h]
theorem z0g {w:World} {g:Nat} {o:Obj} (h:w.heap[g]?=some o):g < w.heap.size:=by
 rcases Nat.lt_or_ge g w.heap.size with h' | h'
 ·exact h'
 ·rw[Array.getElem?_eq_none h'] at h; cases h
theorem six0 {w:World} {g:Nat} {c0 c1 c2 c3 c4 c5:Value} {e:TypeId} (h:w.heap[g]?=some (.cells #[c0,c1,c2,c3,c4,c5] e (0,0))) :
  (w.cell? ⟨g,0,none⟩=some c0/\w.cell? ⟨g,1,none⟩=some c1/\w.cell? ⟨g,2,none⟩=some c2/\w.cell? ⟨g,3,none⟩=some c3/\w.cell? ⟨g,4,none⟩=some c4/\w.cell? ⟨g,5,none⟩=some c5) ∧
  (w.frozen? ⟨g,0,none⟩=false/\w.frozen? ⟨g,1,none⟩=false/\w.frozen? ⟨g,2,none⟩=false/\w.frozen? ⟨g,3,none⟩=false/\w.frozen? ⟨g,4,none⟩=false/\w.frozen? ⟨g,5,none⟩=false)/\g < w.heap.size:=
 ⟨⟨z07 h 0,z07 h 1,z07 h 2,z07 h 3,z07 h 4,z07 h 5⟩,⟨z0c h 0,z0c h 1,z0c h 2,z0c h 3,z0c h 4,z0c h 5⟩,z0g h⟩
def All2 {α β:Type} (R:α->β->Prop):List α->List β->Prop
 | [],[]=>True
 | a :: l,b :: m=>R a b/\All2 R l m
 | _,_=>False
theorem All2.mono {α β:Type} {R S:α->β->Prop} (h:∀a b,R a b->S a b):∀{l:List α} {m:List β},All2 R l m->All2 S l m
 | [],[],_=>trivial
 | _ :: _,_ :: _,⟨h1,h2⟩=>⟨h _ _ h1,All2.mono h h2⟩
theorem All2.snoc {α β:Type} {R:α->β->Prop} {a:α} {b:β} (h:R a b):∀{l:List α} {m:List β},All2 R l m->All2 R (l++[a]) (m++[b])
 | [],[],_=>⟨h,trivial⟩
 | _ :: _,_ :: _,⟨h1,h2⟩=>⟨h1,All2.snoc h h2⟩
theorem All2.length {α β:Type} {R:α->β->Prop}:∀{l:List α} {m:List β},All2 R l m->l.length=m.length
 | [],[],_=>rfl
 | _ :: _,_ :: _,⟨_,h2⟩=>by simp[All2.length h2]
theorem All2.get {α β:Type} {R:α->β->Prop}:∀{l:List α} {m:List β},All2 R l m->∀i (h:i < l.length) (h':i < m.length),R l[i] m[i]
 | _ :: _,_ :: _,⟨h1,h2⟩,i,h,h'=>match i,h,h' with
  | 0,_,_=>h1
  | i+1,h,h'=>All2.get h2 i (by simpa using h) (by simpa using h')
theorem z4j (css:List (List Value)) (sz:Nat) (hl:∀c,c∈css->c.length=sz):∀(i j:Nat) (hi:i < css.length),j < sz->css.flatten[i*sz+j]?=css[i][j]?:=by
 induction css with
 | nil=>intro i j hi; simp at hi
 | cons c css ih=>
  intro i j hi hj;have hc:c.length=sz:=hl c (List.mem_cons_self ..);cases i with
  | zero=>simp only[Nat.zero_mul,Nat.zero_add,List.flatten_cons,List.getElem_cons_zero]; rw[List.getElem?_append_left (by omega)]
  | succ i=>
   have:=ih (fun c hc=>hl c (List.mem_cons_of_mem _ hc)) i j (by simpa using hi) hj;rw[List.flatten_cons,List.getElem?_append_right (by rw[hc,Nat.succ_mul]; omega),hc];rw[show (i+1)*sz+j - sz=i*sz+j by rw[Nat.succ_mul]; omega,this]; rfl
theorem SlAt.ofOwnN {α:Type} {e:TypeId} {sz:Nat} {C:World->α->List Value->Prop} {w:World} {base:Nat} {v:Value} {l:List α} {css:List (List Value)} {n:Nat}
  (h:w.ownsRow base e sz v n css.flatten) (hA:All2 (C w) l css) (hl:∀c,c∈css->c.length=sz) (hn:n=l.length):SlAt e sz C w v l:=by
 subst hn;have hlen:=hA.length;obtain⟨-,h⟩:=h;rcases h with ⟨rfl,h0⟩ | ⟨g,cap,cur,rfl,-,hg,h1,h2,h3,h4⟩
 ·have:l=[]:=List.length_eq_zero_iff.1 h0
  subst this;exact⟨none,0,rfl,Nat.le_refl _,Nat.zero_le _,.inl rfl⟩
 ·refine⟨some ⟨g,0,none⟩,cap,rfl,h1,h2,.inr ⟨g,0,cur,(0,0),rfl,hg,fun i hi=>⟨css[i]'(by omega),hl _ (List.getElem_mem _),hA.get i hi (by omega),fun j hj=>?_⟩⟩⟩
  have hlt:i*sz+j < l.length*sz:=by
   have:(i+1)*sz<=l.length*sz:=Nat.mul_le_mul_right _ hi;rw[Nat.succ_mul] at this; omega
  have h5:(cur.toList.take (l.length*sz))[i*sz+j]?=css.flatten[i*sz+j]?:=by rw[h4]
  rw[List.getElem?_take_of_lt hlt,z4j css sz hl i j (by omega) hj] at h5
  simpa using h5
theorem cells_new (w:World) (cs:List Value) (t:TypeId):∀(j:Nat) (u:Value),cs[j]?=some u->(w.alloc (.cells cs.toArray t)).cell? ((⟨w.heap.size,0,none⟩:Addr).add j)=some u:=by
 intro j u hj;have:=z1j (heap_alloc_new w (.cells cs.toArray t)) j;have e:(⟨w.heap.size,0,none⟩:Addr).add j=⟨w.heap.size,j,none⟩:=by by_cases h:j=0 <;> simp[Addr.add,h]
 rw[e,this]; simpa using hj
theorem z0t (w:World) (cs:List Value) (t:TypeId) (n:Nat) (hn:n=w.heap.size):∀(j:Nat) (u:Value),cs[j]?=some u->(w.alloc (.cells cs.toArray t)).cell? ((⟨n,0,none⟩:Addr).add j)=some u:=by
 subst hn; exact cells_new w cs t
theorem duo0 {w:World} {g:Nat} {c0 c1:Value} {e:TypeId} (h:w.heap[g]?=some (.cells #[c0,c1] e (0,0))) :
  (w.cell? ⟨g,0,none⟩=some c0/\w.cell? ⟨g,1,none⟩=some c1)/\(w.frozen? ⟨g,0,none⟩=false/\w.frozen? ⟨g,1,none⟩=false)/\g < w.heap.size:=
 ⟨⟨z07 h 0,z07 h 1⟩,⟨z0c h 0,z0c h 1⟩,z0g h⟩
theorem store6 {W:World} {b:Nat} {t:TypeId} (hT:Typed W b t) (u0 u1 u2 u3 u4 u5:Value) :
  (∀e,t≠e->Keeps e W ((((((W.setCell ⟨b,0,none⟩ u0).setCell ⟨b,1,none⟩ u1).setCell ⟨b,2,none⟩ u2).setCell ⟨b,3,none⟩ u3).setCell ⟨b,4,none⟩ u4).setCell ⟨b,5,none⟩ u5)) ∧
  (∀B,B<=b->Below B W ((((((W.setCell ⟨b,0,none⟩ u0).setCell ⟨b,1,none⟩ u1).setCell ⟨b,2,none⟩ u2).setCell ⟨b,3,none⟩ u3).setCell ⟨b,4,none⟩ u4).setCell ⟨b,5,none⟩ u5)):=by
 have h5:=store5 hT u0 u1 u2 u3 u4;have hT5:=((((hT.setCell ⟨b,0,none⟩ u0).setCell ⟨b,1,none⟩ u1).setCell ⟨b,2,none⟩ u2).setCell ⟨b,3,none⟩ u3).setCell ⟨b,4,none⟩ u4;exact⟨fun e he=>(h5.1 e he).trans (Keeps.setCell ⟨b,5,none⟩ u5 hT5 he),fun B hB=>(h5.2 B hB).setCell (p:=⟨b,5,none⟩) hB u5⟩
theorem Tryz.infoItem:(Tryz.prog.info? 168).map (fun i=>(i.zero,i.size,i.bytes))=some (some (.agg #[.int .i64 0,.int .u8 0]),2,16):=by kernel_rfl
def itemV (x:Nat×Nat):List Value:=[.int .i64 x.1,.int .u8 x.2]
def itemsV (l:List (Nat×Nat)):List Value:=(l.map itemV).flatten
theorem z4k (l:List (Nat×Nat)) (x:Nat×Nat):itemsV (l++[x])=itemsV l++[.int .i64 x.1,.int .u8 x.2]:=by simp[itemsV,itemV]
def CItem (_:World) (x:Nat×Nat) (cs:List Value):Prop:=cs=itemV x
def Items (w:World) (v:Value) (l:List (Nat×Nat)):Prop:=SlAt 168 2 CItem w v l
theorem Items.keep {w w':World} {v:Value} {l:List (Nat×Nat)} (h:Items w v l) (k:Keeps 168 w w'):Items w' v l:=SlAt.keep h k (fun _ _ h=>h)
theorem Items.ofOwn {w:World} {base:Nat} {v:Value} {l:List (Nat×Nat)} {n:Nat} (h:w.ownsRow base 168 2 v n (itemsV l)) (hn:n=l.length):Items w v l:=by
 refine SlAt.ofOwnN (css:=l.map itemV) h ?_ ?_ hn
 ·clear h hn
  induction l with
  | nil=>trivial
  | cons a l ih=>exact⟨rfl,ih⟩
 ·intro c hc
  obtain⟨a,-,rfl⟩:=List.mem_map.1 hc;rfl
theorem gr_own {b:Nat} {w w1 w2:World} {o:Obj} {v:Value} {e:TypeId} {size n:Nat} {xs:List Value} {B:Nat} (h:w.grownBy w1 (some b)) (hB:w.heap.size<=B)
  (hown:w1.ownsRow B e size v n xs) (hg:(w1.alloc o).grownBy w2 v.ownBlock):w.grownBy w2 (some b):=by
 refine⟨hg.os.trans h.os,hg.tape.trans h.tape,hg.output.trans h.output,Nat.le_trans h.size (Nat.le_trans (by simp) hg.size),fun k hk hn=>?_⟩;have hk1:k < w1.heap.size:=Nat.lt_of_lt_of_le hk h.size;have h1:(w1.alloc o).heap[k]?=w1.heap[k]?:=Below.heap_alloc _ _ _ hk1;have h2:w2.heap[k]?=(w1.alloc o).heap[k]?:=hg.block k (by simp; omega) (fun e=>by have:=(hown.lt k e.symm).1; omega);rw[h2,h1];exact h.block k hk hn
theorem Cur.own {b:Nat} {w1 w2:World} {s:ByteArray} {p:Nat} {o:Obj} {v:Value} {e:TypeId} {size n:Nat} {xs:List Value} {B:Nat} (h:Cur w1 b s p)
  (hown:w1.ownsRow B e size v n xs) (hg:(w1.alloc o).grownBy w2 v.ownBlock) (hne:e≠179):Cur w2 b s p:=
 (z0f hown hg hne _ _ _ h).trans h
theorem own_gr {b:Nat} {w w':World} {B:Nat} {e:TypeId} {size n:Nat} {v:Value} {xs:List Value} (h:w.ownsRow B e size v n xs) (hg:w.grownBy w' (some b)) (hb:b < B):w'.ownsRow B e size v n xs:=by
 refine h.kept hg ?_;rcases h.2 with ⟨rfl,-⟩ | ⟨g,cap,cur,rfl,hg',-⟩
 ·exact .inl rfl
 ·right; simp only[Value.ownBlock,ne_eq,Option.some.injEq]; omega
set_option maxHeartbeats 1000000 in
theorem path_lo (b:Nat) (s:ByteArray) (p:Nat) (w:World) (h:Cur w b s p) (hs:s.size<=256) (hp:p<=s.size) :
  Calls Tryz.prog 189 #[.pointer (some ⟨b,0,none⟩)] w fun e w'=>∃v,e=.returned (.tuple #[v,.bool (decide (0 < (pathL s 300 p).1.length))]) ∧
   Items w' v (pathL s 300 p).1/\Cur w' b s (pathL s 300 p).2/\(pathL s 300 p).2<=s.size/\w.grownBy w' (some b)/\Lo w.heap.size v:=by
 obtain⟨i0,hi0⟩:=info_parts Tryz.infoItem;have HI:=zh hi0;clear hi0;have hbw:=h.cells.2.2.2.2;obtain⟨Z,hZ⟩:∃Z,Z=pathL s 300 p:=⟨_,rfl⟩
 rw[<-hZ];have H1:=zh (z1y b s p w h hs hp);go_enter Tryz.func189,Tryz.ntmps189
 go_wp2_with fail
 refine(uh H1).mono ?_;rintro e w1 ⟨rfl,a1,a2,a3⟩;have A:=zh (And.intro a1 (And.intro a2 (And.intro a3 hZ)));clear a1 a2 a3 hZ;go_wp2
 go_loopg [4,5,6] 300 (fun f l n t wr=>∃q:Nat,∃acc,n=.int .i64 (offB 97 112 (pk s q):Nat)/\t=.bool (inB 97 112 (pk s q))/\acc.length<=q/\q<=s.size/\s.size < q+f ∧
   wr.ownsRow w.heap.size 168 2 l acc.length (itemsV acc)/\Z=(acc++(pathL s f q).1,(pathL s f q).2)/\Cur wr b s (adv (inB 97 112 (pk s q)) q)/\adv (inB 97 112 (pk s q)) q<=s.size/\w.grownBy wr (some b))
 case atStart=>exact⟨p,[],rfl,rfl,Nat.zero_le _,hp,by omega,World.ownsRow_nil _ _ _ _,(uh A).2.2.2,(uh A).1,(uh A).2.1,(uh A).2.2.1⟩
 case round=>
  clear A;obtain⟨q,acc,rfl,rfl,hac,hq,hf,hown,hZ,hC,hle,hg⟩:=hrel;obtain⟨f,hfe⟩:∃f,gk=f+1:=⟨gk - 1,by omega⟩
  subst hfe;cases hin:inB 97 112 (pk s q) with
  | false=>
   rw[hin] at hC hle;have hZ2:Z=(acc,q):=by rw[hZ]; simp[pathL,hin]
   have F:=zh (And.intro (Items.ofOwn hown rfl) (And.intro hC (And.intro hle (And.intro hg hZ2))));have FLO:=zh (Lo.of hown);obtain⟨al,cl,hv⟩:=z02 hown;subst hv;clear hown hZ hC hle hg hZ2;go_wp2
   go_ret2
   obtain⟨F1,F2,F3,F4,F5⟩:=uh F;refine⟨.slice al acc.length cl,?_,by rw[F5]; exact F1,by rw[F5]; exact F2,by rw[F5]; exact F3,F4,uh FLO⟩;rw[F5]; rfl
  | true=>
   rw[hin] at hC hle;have hoff:offB 97 112 (pk s q)=pk s q - 97:=by unfold offB; rw[hin]; rfl
   rw[hoff];have hq1:q+1<=s.size:=hle;have hZ2:Z=((acc++[(pk s q - 97,sgn (pk s (q+1)))])++(pathL s f (adv (sgn (pk s (q+1)) != 0) (q+1))).1,(pathL s f (adv (sgn (pk s (q+1)) != 0) (q+1))).2):=by
    rw[hZ]; simp[pathL,hin]
   have HS:=zh (takeSign_any b s (q+1) wr hC hs hq1);have hc256:=pk_lt s q;have hadv:q+1<=adv (sgn (pk s (q+1)) != 0) (q+1):=by unfold adv; split <;> omega
   generalize sgn (pk s (q+1))=sg at *;generalize adv (sg != 0) (q+1)=q2 at *;generalize pk s q=c at *;have HZ2:=zh hZ2;have hsz:w.heap.size<=wr.heap.size:=hg.size;clear hZ2 hZ hin hoff hC;go_wp2_with fail
   refine(uh HS).mono ?_;rintro e w2 ⟨rfl,a1,a2,a3⟩;have hown2:=own_gr hown a3 hbw;have hg2:=z1e hg a3;have hsz2:w.heap.size<=w2.heap.size:=hg2.size;have A:=zh (And.intro a1 (And.intro a2 hg2));clear a1 a2 a3 hown hg hg2;have hL:=zh (fun w' (h:Cur w' b s q2)=>z1y b s q2 w' h hs);go_wp2_with (first
    | (at_builtin; refine wpList_append_own _ rfl _ _ 111 rfl w.heap.size 168 i0 (.agg #[.int .i64 0,.int .u8 0]) 2 16 Tryz.underlying111 (uh HI).1 (uh HI).2.1 (uh HI).2.2.1 (uh HI).2.2.2 rfl (by decide) _ _ _ rfl (hown2.alloc _) ⟨w2.heap.size,0,none⟩ 1 1 [.int .i64 ((c - 97:Nat):Int),.int .u8 sg] rfl rfl (z0t _ [.int .i64 ((c - 97:Nat):Int),.int .u8 sg] _ _ rfl) (by simp[Value.oneCell']) (by unfold maxLen; omega) (by omega) (by simp; omega) ?_; intro v3 w3 hown3 hgrow3 _; have HC3:=zh ((uh A).1.own hown2 hgrow3 (by decide)); have HG3:=zh (gr_own (uh A).2.2 (Nat.le_refl _) hown2 hgrow3))
    | (go_at_call 188; refine(uh hL _ (uh HC3) (uh A).2.1).mono ?_; rintro e w4 ⟨rfl,a1,a2,a3⟩))
   have hown4:=own_gr hown3 a3 hbw;rw[<-z4k acc (c - 97,sg)] at hown4;go_roundg f
   case measure=>omega
   case rel=>exact⟨q2,acc++[(c - 97,sg)],rfl,rfl,by simp; omega,(uh A).2.1,by omega,by simpa using hown4,uh HZ2,a1,a2,z1e (uh HG3) a3⟩
set_option maxHeartbeats 1000000 in
theorem flank_lo (b:Nat) (s:ByteArray) (p:Nat) (w:World) (h:Cur w b s p) (hs:s.size<=256) (hp:p<=s.size) :
  Calls Tryz.prog 190 #[.pointer (some ⟨b,0,none⟩)] w fun e w'=>∃a n c,e=.returned (.tuple #[.slice a n c,.bool ((z11 s 300 p).2.2&&decide (0 < (z11 s 300 p).1.length))]) ∧
   ((z11 s 300 p).2.2=true->Items w' (.slice a n c) (z11 s 300 p).1)/\Cur w' b s (z11 s 300 p).2.1/\(z11 s 300 p).2.1<=s.size/\w.grownBy w' (some b)/\Lo w.heap.size (.slice a n c):=by
 obtain⟨i0,hi0⟩:=info_parts Tryz.infoItem;have HI:=zh hi0;clear hi0;have hbw:=h.cells.2.2.2.2;obtain⟨Z,hZ⟩:∃Z,Z=z11 s 300 p:=⟨_,rfl⟩
 rw[<-hZ];have H1:=zh (z1y b s p w h hs hp);go_enter Tryz.func190,Tryz.ntmps190
 go_wp2_with fail
 refine(uh H1).mono ?_;rintro e w1 ⟨rfl,a1,a2,a3⟩;have A:=zh (And.intro a1 (And.intro a2 (And.intro a3 hZ)));clear a1 a2 a3 hZ;go_wp2
 go_loopg [4,5,6] 300 (fun f l n t wr=>∃q:Nat,∃acc,n=.int .i64 (offB 97 112 (pk s q):Nat)/\t=.bool (inB 97 112 (pk s q))/\acc.length<=q/\q<=s.size/\s.size < q+f ∧
   wr.ownsRow w.heap.size 168 2 l acc.length (itemsV acc)/\Z=(acc++(z11 s f q).1,(z11 s f q).2)/\Cur wr b s (adv (inB 97 112 (pk s q)) q)/\adv (inB 97 112 (pk s q)) q<=s.size/\w.grownBy wr (some b))
 case atStart=>exact⟨p,[],rfl,rfl,Nat.zero_le _,hp,by omega,World.ownsRow_nil _ _ _ _,(uh A).2.2.2,(uh A).1,(uh A).2.1,(uh A).2.2.1⟩
 case round=>
  clear A;obtain⟨q,acc,rfl,rfl,hac,hq,hf,hown,hZ,hC,hle,hg⟩:=hrel;obtain⟨f,hfe⟩:∃f,gk=f+1:=⟨gk - 1,by omega⟩
  subst hfe;cases hin:inB 97 112 (pk s q) with
  | false=>
   rw[hin] at hC hle;have hZ2:Z=(acc,q,true):=by rw[hZ]; simp[z11,hin]
   have F:=zh (And.intro (Items.ofOwn hown rfl) (And.intro hC (And.intro hle (And.intro hg hZ2))));have FLO:=zh (Lo.of hown);obtain⟨al,cl,hv⟩:=z02 hown;subst hv;clear hown hZ hC hle hg hZ2;go_wp2
   go_ret2
   obtain⟨F1,F2,F3,F4,F5⟩:=uh F;refine⟨al,acc.length,cl,?_,by rw[F5]; exact fun _=>F1,by rw[F5]; exact F2,by rw[F5]; exact F3,F4,uh FLO⟩;rw[F5]; simp
  | true=>
   rw[hin] at hC hle;have hoff:offB 97 112 (pk s q)=pk s q - 97:=by unfold offB; rw[hin]; rfl
   rw[hoff];have hq1:q+1<=s.size:=hle;have HS:=zh (takeSign_any b s (q+1) wr hC hs hq1);have hc256:=pk_lt s q;have hsz:w.heap.size<=wr.heap.size:=hg.size;by_cases h0:sgn (pk s (q+1))=0
   ·have HZ2:=zh (show Z=(acc,q+1,false) by rw[hZ]; simp[z11,hin,h0])
    rw[h0] at HS;generalize pk s q=c at *;clear hZ hin hoff h0 hown;go_wp2_with fail
    refine(uh HS).mono ?_;rintro e w2 ⟨rfl,a1,a2,a3⟩;have A:=zh (And.intro a1 (z1e hg a3));clear a1 a2 a3 hg hC;go_wp2
    go_ret2
    refine⟨none,0,0,by rw[uh HZ2]; rfl,fun h=>absurd h (by rw[uh HZ2]; simp),by rw[uh HZ2]; exact(uh A).1,by rw[uh HZ2]; exact hq1,(uh A).2,Lo.nil _ _ _⟩
   ·have hadv:adv (sgn (pk s (q+1)) != 0) (q+1)=q+2:=by unfold adv; simp[h0]
    have hZ2:Z=((acc++[(pk s q - 97,sgn (pk s (q+1)))])++(z11 s f (q+2)).1,(z11 s f (q+2)).2):=by
     rw[hZ]; simp[z11,hin,h0]
    rw[hadv] at HS;generalize sgn (pk s (q+1))=sg at *;generalize pk s q=c at *;have HZ2:=zh hZ2;have hsg:((sg:Int)==0)=false:=by simp; omega
    clear hZ2 hZ hin hoff hC h0;go_wp2_with fail
    refine(uh HS).mono ?_;rintro e w2 ⟨rfl,a1,a2,a3⟩;have hown2:=own_gr hown a3 hbw;have hg2:=z1e hg a3;have hsz2:w.heap.size<=w2.heap.size:=hg2.size;have A:=zh (And.intro a1 (And.intro a2 hg2));clear a1 a2 a3 hown hg hg2;have hL:=zh (fun w' (h:Cur w' b s (q+2))=>z1y b s (q+2) w' h hs);go_wp2_with (first
     | (at_builtin; refine wpList_append_own _ rfl _ _ 111 rfl w.heap.size 168 i0 (.agg #[.int .i64 0,.int .u8 0]) 2 16 Tryz.underlying111 (uh HI).1 (uh HI).2.1 (uh HI).2.2.1 (uh HI).2.2.2 rfl (by decide) _ _ _ rfl (hown2.alloc _) ⟨w2.heap.size,0,none⟩ 1 1 [.int .i64 ((c - 97:Nat):Int),.int .u8 sg] rfl rfl (z0t _ [.int .i64 ((c - 97:Nat):Int),.int .u8 sg] _ _ rfl) (by simp[Value.oneCell']) (by unfold maxLen; omega) (by omega) (by simp; omega) ?_; intro v3 w3 hown3 hgrow3 _; have HC3:=zh ((uh A).1.own hown2 hgrow3 (by decide)); have HG3:=zh (gr_own (uh A).2.2 (Nat.le_refl _) hown2 hgrow3))
     | (go_at_call 188; refine(uh hL _ (uh HC3) (uh A).2.1).mono ?_; rintro e w4 ⟨rfl,a1,a2,a3⟩))
    have hown4:=own_gr hown3 a3 hbw;rw[<-z4k acc (c - 97,sg)] at hown4;go_roundg f
    case measure=>omega
    case rel=>exact⟨q+2,acc++[(c - 97,sg)],rfl,rfl,by simp; omega,(uh A).2.1,by omega,by simpa using hown4,uh HZ2,a1,a2,z1e (uh HG3) a3⟩
def CRt (w:World) (r:Rt) (cs:List Value):Prop:=∃vp vf,cs=[.int .i64 r.foot,vp,vf]/\Items w vp r.path/\Items w vf r.flank
theorem CRt.keep {w w':World} {r:Rt} {cs:List Value} (h:CRt w r cs) (k:Keeps 168 w w'):CRt w' r cs:=by
 obtain⟨vp,vf,e,a,b⟩:=h;exact⟨vp,vf,e,a.keep k,b.keep k⟩
theorem tri0 {w:World} {g:Nat} {c0 c1 c2:Value} {e:TypeId} (h:w.heap[g]?=some (.cells #[c0,c1,c2] e (0,0))) :
  (w.cell? ⟨g,0,none⟩=some c0/\w.cell? ⟨g,1,none⟩=some c1/\w.cell? ⟨g,2,none⟩=some c2)/\(w.frozen? ⟨g,0,none⟩=false/\w.frozen? ⟨g,1,none⟩=false/\w.frozen? ⟨g,2,none⟩=false)/\g < w.heap.size:=
 ⟨⟨z07 h 0,z07 h 1,z07 h 2⟩,⟨z0c h 0,z0c h 1,z0c h 2⟩,z0g h⟩
theorem z25 {w w1:World} {r:Option Nat} (h:w.grownBy w1 r) (g j:Nat) (u:Value) (hg:w.heap.size<=g):w.grownBy (w1.setCell ⟨g,j,none⟩ u) r:=
 ⟨h.os,h.tape,h.output,by simpa [World.setCell] using h.size,fun k hk hn=>by rw[Below.heap_setCell _ _ _ _ (by show k≠g; omega)]; exact h.block k hk hn⟩
theorem z51 {w w1:World} {r:Option Nat} (h:w.grownBy w1 r) (o:Obj):w.grownBy (w1.alloc o) r:=
 ⟨h.os,h.tape,h.output,Nat.le_trans h.size (by simp),fun k hk hn=>by rw[Below.heap_alloc _ _ _ (Nat.lt_of_lt_of_le hk h.size)]; exact h.block k hk hn⟩
theorem Cur.alloc {w:World} {b:Nat} {s:ByteArray} {p:Nat} (h:Cur w b s p) (o:Obj):Cur (w.alloc o) b s p:=by
 have:=h.cells.2.2.2.2;unfold Cur at h ⊢;rw[Below.heap_alloc _ _ _ this]; exact h
theorem Cur.setCell {w:World} {b:Nat} {s:ByteArray} {p:Nat} (h:Cur w b s p) (g j:Nat) (u:Value) (hg:b≠g):Cur (w.setCell ⟨g,j,none⟩ u) b s p:=by
 unfold Cur at h ⊢;rw[Below.heap_setCell _ _ _ _ hg]; exact h
theorem z1t {w w':World} {b g:Nat} {o:Obj} (h:w.heap[g]?=some o) (hg:w.grownBy w' (some b)) (hne:g≠b):w'.heap[g]?=some o:=by
 rw[hg.block g (z0g h) (by simpa using hne)]; exact h
theorem z3o {w w':World} {b:Nat} {e e':TypeId} (hT:Typed w b e') (hg:w.grownBy w' (some b)) (hne:e'≠e):Keeps e w w':=by
 intro g cur fr h;refine hg.block g (z0g h) ?_;intro heq;simp only[Option.some.injEq] at heq;subst heq;obtain⟨cur',fr',h'⟩:=hT;rw[h] at h';simp at h';exact hne h'.2.1.symm
theorem Cur.typed {w:World} {b:Nat} {s:ByteArray} {p:Nat} (h:Cur w b s p):Typed w b 179:=⟨_,_,h⟩
theorem store3 {W:World} {b:Nat} {t:TypeId} (hT:Typed W b t) (u0 u1 u2:Value) :
  (∀e,t≠e->Keeps e W (((W.setCell ⟨b,0,none⟩ u0).setCell ⟨b,1,none⟩ u1).setCell ⟨b,2,none⟩ u2)):=by
 have h1:=hT.setCell ⟨b,0,none⟩ u0;have h2:=h1.setCell ⟨b,1,none⟩ u1;exact fun e he=>((Keeps.setCell ⟨b,0,none⟩ u0 hT he).trans (Keeps.setCell ⟨b,1,none⟩ u1 h1 he)).trans (Keeps.setCell ⟨b,2,none⟩ u2 h2 he)
def z15 (s:ByteArray) (p:Nat):Bool×Nat×Rt:=
 if inB 97 112 (pk s p)=false then (false,p,Rt0)
 else if (pk s (p+1)==62)=false then (false,p+1,Rt0)
 else if (pathL s 300 (p+2)).1.length=0 then (false,(pathL s 300 (p+2)).2,Rt0)
 else if (pk s (pathL s 300 (p+2)).2==33)=false then (true,(pathL s 300 (p+2)).2,⟨pk s p - 97,(pathL s 300 (p+2)).1,[]⟩)
 else ((z11 s 300 ((pathL s 300 (p+2)).2+1)).2.2&&decide (0 < (z11 s 300 ((pathL s 300 (p+2)).2+1)).1.length),(z11 s 300 ((pathL s 300 (p+2)).2+1)).2.1,
  ⟨pk s p - 97,(pathL s 300 (p+2)).1,(z11 s 300 ((pathL s 300 (p+2)).2+1)).1⟩)
set_option maxHeartbeats 1000000 in
theorem route_clo (b:Nat) (s:ByteArray) (p:Nat) (w:World) (h:Cur w b s p) (hs:s.size<=256) (hp:p<=s.size) :
  Calls Tryz.prog 178 #[.pointer (some ⟨b,0,none⟩)] w fun e w'=>∃(t:Int) (a1 a2:Option Addr) (n1 n2 c1 c2:Nat),e=.returned (.tuple #[.agg #[.int .i64 t,.slice a1 n1 c1,.slice a2 n2 c2],.bool (z15 s p).1]) ∧
   ((z15 s p).1=true->CRt w' (z15 s p).2.2 [.int .i64 t,.slice a1 n1 c1,.slice a2 n2 c2])/\Cur w' b s (z15 s p).2.1/\(z15 s p).2.1<=s.size/\w.grownBy w' (some b)/\LoC w.heap.size [.int .i64 t,.slice a1 n1 c1,.slice a2 n2 c2]:=by
 have hbw:=h.cells.2.2.2.2;obtain⟨Z,hZ⟩:∃Z,Z=z15 s p:=⟨_,rfl⟩
 rw[<-hZ];unfold z15 at hZ;have H1:=zh (fun w (h:Cur w b s p)=>z1y b s p w h hs hp);have h2:=(h.alloc (.cells #[.int .i64 0,.slice none 0 0,.slice none 0 0] 113)).alloc (.cells #[.int .i64 0,.slice none 0 0,.slice none 0 0] 113);have g2:=z51 (z51 (gr_refl w (some b)) (.cells #[.int .i64 0,.slice none 0 0,.slice none 0 0] 113)) (.cells #[.int .i64 0,.slice none 0 0,.slice none 0 0] 113);have B1:=blk1 w (.cells #[.int .i64 0,.slice none 0 0,.slice none 0 0] 113) (.cells #[.int .i64 0,.slice none 0 0,.slice none 0 0] 113);have B2:=blk2 w (.cells #[.int .i64 0,.slice none 0 0,.slice none 0 0] 113) (.cells #[.int .i64 0,.slice none 0 0,.slice none 0 0] 113);have G:=zh (And.intro h2 (And.intro g2 (And.intro B1 B2)));have hne1:w.heap.size≠b:=by omega
 have hne2:w.heap.size+1≠b:=by omega
 have HZ:=zh hZ;clear h2 g2 B1 B2 hZ;go_enter Tryz.func178,Tryz.ntmps178
 go_wp2_with fail
 refine(uh H1 _ (uh G).1).mono ?_;rintro e w1 ⟨rfl,a1,a2,a3⟩;have D:=zh (And.intro (z1t (uh G).2.2.1 a3 hne1) (And.intro (z1t (uh G).2.2.2 a3 hne2) (z1e (uh G).2.1 a3)));have A:=zh (And.intro a1 a2);clear G a1 a2 a3;cases hin:inB 97 112 (pk s p) with
 | false=>
  rw[hin,if_pos rfl] at HZ;rw[hin] at A;clear hin;obtain⟨⟨r0,r1,r2⟩,⟨f0,f1,f2⟩,q1⟩:=tri0 (uh D).1;obtain⟨⟨l0,l1,l2⟩,⟨k0,k1,k2⟩,q2⟩:=tri0 (uh D).2.1;go_wp2
  refine bodyPost_ret (v:=.tuple #[.agg #[.int .i64 0,.slice none 0 0,.slice none 0 0],.bool false]) (by simp[results,Tryz.results178,go_sem,r0,r1,r2]) rfl ?_;refine⟨_,_,_,_,_,_,_,by rw[uh HZ] <;> rfl,fun h=>absurd h (by rw[uh HZ]; simp),?_,?_,z25 (z25 (z25 (uh D).2.2 _ _ _ (Nat.le_refl _)) _ _ _ (Nat.le_refl _)) _ _ _ (Nat.le_refl _),lo3 (Lo.nil _ _ _) (Lo.nil _ _ _)⟩
  ·rw[uh HZ]; exact((((uh A).1).setCell _ _ _ (Ne.symm hne1)).setCell _ _ _ (Ne.symm hne1)).setCell _ _ _ (Ne.symm hne1)
  ·rw[uh HZ]; exact(uh A).2
 | true=>
  rw[hin,if_neg (by simp)] at HZ;rw[hin] at A;have hoff:offB 97 112 (pk s p)=pk s p - 97:=by unfold offB; rw[hin]; rfl
  rw[hoff];clear hin hoff;have hp1:p+1<=s.size:=(uh A).2;have H2:=zh (z3m b s (p+1) 62 w1 (uh A).1 hs hp1 (by omega));have hc256:=pk_lt s p;generalize pk s p=c at *;cases h62:(pk s (p+1)==62) with
  | false=>
   rw[h62,if_pos rfl] at HZ;rw[h62] at H2;clear h62;go_wp2_with fail
   refine(uh H2).mono ?_;rintro e w2 ⟨rfl,a1,a2,a3⟩;have D2:=zh (And.intro (z1t (uh D).1 a3 hne1) (And.intro (z1t (uh D).2.1 a3 hne2) (z1e (uh D).2.2 a3)));have A2:=zh (And.intro a1 a2);clear D a1 a2 a3;obtain⟨⟨r0,r1,r2⟩,⟨f0,f1,f2⟩,q1⟩:=tri0 (uh D2).1;obtain⟨⟨l0,l1,l2⟩,⟨k0,k1,k2⟩,q2⟩:=tri0 (uh D2).2.1;go_wp2
   refine bodyPost_ret (v:=.tuple #[.agg #[.int .i64 0,.slice none 0 0,.slice none 0 0],.bool false]) (by simp[results,Tryz.results178,go_sem,r0,r1,r2]) rfl ?_;refine⟨_,_,_,_,_,_,_,by rw[uh HZ] <;> rfl,fun h=>absurd h (by rw[uh HZ]; simp),?_,?_,z25 (z25 (z25 (uh D2).2.2 _ _ _ (Nat.le_refl _)) _ _ _ (Nat.le_refl _)) _ _ _ (Nat.le_refl _),lo3 (Lo.nil _ _ _) (Lo.nil _ _ _)⟩
   ·rw[uh HZ]; exact((((uh A2).1).setCell _ _ _ (Ne.symm hne1)).setCell _ _ _ (Ne.symm hne1)).setCell _ _ _ (Ne.symm hne1)
   ·rw[uh HZ]; exact(uh A2).2
  | true=>
   rw[h62,if_neg (by simp)] at HZ;rw[h62] at H2;clear h62;go_wp2_with fail
   refine(uh H2).mono ?_;rintro e w2 ⟨rfl,a1,a2,a3⟩;have hL2:=z0b (j:=0) (.int .i64 ((c - 97:Nat):Int)) (z1t (uh D).2.1 a3 hne2);have hR2:(w2.setCell ⟨w.heap.size+1,0,none⟩ (.int .i64 ((c - 97:Nat):Int))).heap[w.heap.size]?=_:=(Below.heap_setCell w2 ⟨w.heap.size+1,0,none⟩ (.int .i64 ((c - 97:Nat):Int)) w.heap.size (by simp)).trans (z1t (uh D).1 a3 hne1);have hG2:=z25 (z1e (uh D).2.2 a3) (w.heap.size+1) 0 (.int .i64 ((c - 97:Nat):Int)) (by omega);have hC2:=a1.setCell (w.heap.size+1) 0 (.int .i64 ((c - 97:Nat):Int)) (Ne.symm hne2);have hp2:p+2<=s.size:=a2;obtain⟨⟨r0,r1,r2⟩,⟨f0,f1,f2⟩,q1⟩:=tri0 (z1t (uh D).1 a3 hne1);obtain⟨⟨l0,l1,l2⟩,⟨k0,k1,k2⟩,q2⟩:=tri0 (z1t (uh D).2.1 a3 hne2);have H3:=zh (path_lo b s (p+2) _ hC2 hs hp2);have D2:=zh (And.intro hR2 (And.intro hL2 hG2));clear D A H2 a1 a2 a3 hL2 hR2 hG2 hC2;generalize pathL s 300 (p+2)=PL at *;go_wp2_with fail
   refine(uh H3).mono ?_;rintro e w3 ⟨vp,rfl,a0,a1,a2,a3,alo⟩;have HLP:=zh (alo.mono (m:=w.heap.size) (uh D2).2.2.size);clear alo;have D3:=zh (And.intro (z1t (uh D2).1 a3 hne1) (And.intro (z1t (uh D2).2.1 a3 hne2) (And.intro (z1e (uh D2).2.2 a3) (And.intro a0 (And.intro a1 a2)))));obtain⟨ap,cp,hvp,-,-,-⟩:=SlAt.open a0;subst hvp;clear D2 H3 r0 r1 r2 f0 f1 f2 q1 l0 l1 l2 k0 k1 k2 q2 a0 a1 a2 a3;obtain⟨⟨r0,r1,r2⟩,⟨f0,f1,f2⟩,q1⟩:=tri0 (uh D3).1;have hLL:w3.heap[w.heap.size+1]?=some (.cells #[.int .i64 ((c - 97:Nat):Int),.slice none 0 0,.slice none 0 0] 113 (0,0)):=(uh D3).2.1;obtain⟨⟨l0,l1,l2⟩,⟨k0,k1,k2⟩,q2⟩:=tri0 hLL;have HLL:=zh hLL;clear hLL;by_cases hpe:PL.1.length=0
   ·rw[if_pos hpe] at HZ
    have d:decide (0 < PL.1.length)=false:=decide_eq_false (by omega);rw[d];clear d;go_wp2
    refine bodyPost_ret (v:=.tuple #[.agg #[.int .i64 ((c - 97:Nat):Int),.slice none 0 0,.slice none 0 0],.bool false]) (by simp[results,Tryz.results178,go_sem,r0,r1,r2]) rfl ?_;refine⟨_,_,_,_,_,_,_,by rw[uh HZ] <;> rfl,fun h=>absurd h (by rw[uh HZ]; simp),?_,?_,z25 (z25 (z25 (uh D3).2.2.1 _ _ _ (Nat.le_refl _)) _ _ _ (Nat.le_refl _)) _ _ _ (Nat.le_refl _),lo3 (Lo.nil _ _ _) (Lo.nil _ _ _)⟩
    ·rw[uh HZ]; exact((((uh D3).2.2.2.2.1).setCell _ _ _ (Ne.symm hne1)).setCell _ _ _ (Ne.symm hne1)).setCell _ _ _ (Ne.symm hne1)
    ·rw[uh HZ]; exact(uh D3).2.2.2.2.2
   ·rw[if_neg hpe] at HZ
    have d:decide (0 < PL.1.length)=true:=decide_eq_true (by omega);rw[d];clear d;have hL4:=z0b (j:=1) (.slice ap PL.1.length cp) (uh HLL);have hR4:(w3.setCell ⟨w.heap.size+1,1,none⟩ (.slice ap PL.1.length cp)).heap[w.heap.size]?=_:=(Below.heap_setCell w3 ⟨w.heap.size+1,1,none⟩ (.slice ap PL.1.length cp) w.heap.size (by simp)).trans (uh D3).1;have hG4:=z25 (uh D3).2.2.1 (w.heap.size+1) 1 (.slice ap PL.1.length cp) (by omega);have hC4:=(uh D3).2.2.2.2.1.setCell (w.heap.size+1) 1 (.slice ap PL.1.length cp) (Ne.symm hne2);have hI4:=(uh D3).2.2.2.1.keep (Keeps.setCell ⟨w.heap.size+1,1,none⟩ (.slice ap PL.1.length cp) ⟨_,_,uh HLL⟩ (by decide));have hq2:=(uh D3).2.2.2.2.2;have H5:=zh (z3m b s PL.2 33 _ hC4 hs hq2 (by omega));have D4:=zh (And.intro hR4 (And.intro hL4 (And.intro hG4 (And.intro hI4 hC4.typed))));have l0':=zh l0;clear D3 hR4 hL4 hG4 hC4 hI4;go_wp2_with fail
    refine(uh H5).mono ?_;rintro e w5 ⟨rfl,a1,a2,a3⟩;have hLL:w5.heap[w.heap.size+1]?=some (.cells #[.int .i64 ((c - 97:Nat):Int),.slice ap PL.1.length cp,.slice none 0 0] 113 (0,0)):=z1t (uh D4).2.1 a3 hne2;have hI5:Items w5 (.slice ap PL.1.length cp) PL.1:=(uh D4).2.2.2.1.keep (z3o (uh D4).2.2.2.2 a3 (by decide));have hR5:=z1t (uh D4).1 a3 hne1;have D5:=zh (And.intro hR5 (And.intro hLL (And.intro (z1e (uh D4).2.2.1 a3) (And.intro hI5 (And.intro a1 a2)))));clear D4 H5 r0 r1 r2 f0 f1 f2 q1 l0 l1 l2 k0 k1 k2 q2 a1 a2 a3 hLL hI5 hR5 HLL l0';obtain⟨⟨r0,r1,r2⟩,⟨f0,f1,f2⟩,q1⟩:=tri0 (uh D5).1;obtain⟨⟨l0,l1,l2⟩,⟨k0,k1,k2⟩,q2⟩:=tri0 (uh D5).2.1;cases h33:(pk s PL.2==33) with
    | false=>
     rw[h33,if_pos rfl] at HZ;rw[h33] at D5;clear h33;have kS:=zh (store3 (⟨_,_,(uh D5).1⟩:Typed w5 w.heap.size 113) (.int .i64 ((c - 97:Nat):Int)) (.slice ap PL.1.length cp) (.slice none 0 0) 168 (by decide));go_wp2
     refine bodyPost_ret (v:=.tuple #[.agg #[.int .i64 ((c - 97:Nat):Int),.slice ap PL.1.length cp,.slice none 0 0],.bool true]) (by simp[results,Tryz.results178,go_sem,r0,r1,r2]) rfl ?_;refine⟨_,_,_,_,_,_,_,by rw[uh HZ] <;> rfl,fun _=>by rw[uh HZ]; exact⟨_,_,rfl,(uh D5).2.2.2.1.keep (uh kS),SlAt.nil _ _ _ _⟩,?_,?_,z25 (z25 (z25 (uh D5).2.2.1 _ _ _ (Nat.le_refl _)) _ _ _ (Nat.le_refl _)) _ _ _ (Nat.le_refl _),lo3 (uh HLP) (Lo.nil _ _ _)⟩
     ·rw[uh HZ]; exact((((uh D5).2.2.2.2.1).setCell _ _ _ (Ne.symm hne1)).setCell _ _ _ (Ne.symm hne1)).setCell _ _ _ (Ne.symm hne1)
     ·rw[uh HZ]; exact(uh D5).2.2.2.2.2
    | true=>
     rw[h33,if_neg (by simp)] at HZ;rw[h33] at D5;clear h33;have hq3:PL.2+1<=s.size:=(uh D5).2.2.2.2.2;have H6:=zh (flank_lo b s (PL.2+1) w5 (uh D5).2.2.2.2.1 hs hq3);generalize z11 s 300 (PL.2+1)=FL at *;go_wp2_with fail
     refine(uh H6).mono ?_;rintro e w6 ⟨af,nf,cf,rfl,a0,a1,a2,a3,alo⟩;have HLF:=zh (alo.mono (m:=w.heap.size) (uh D5).2.2.1.size);clear alo;have hI6:Items w6 (.slice ap PL.1.length cp) PL.1:=(uh D5).2.2.2.1.keep (z3o (uh D5).2.2.2.2.1.typed a3 (by decide));have D6:=zh (And.intro (z1t (uh D5).1 a3 hne1) (And.intro (z1t (uh D5).2.1 a3 hne2) (And.intro (z1e (uh D5).2.2.1 a3) (And.intro hI6 (And.intro a1 (And.intro a2 a0))))));clear D5 H6 r0 r1 r2 f0 f1 f2 q1 l0 l1 l2 k0 k1 k2 q2 a0 a1 a2 a3 hI6;obtain⟨⟨r0,r1,r2⟩,⟨f0,f1,f2⟩,q1⟩:=tri0 (uh D6).1;obtain⟨⟨l0,l1,l2⟩,⟨k0,k1,k2⟩,q2⟩:=tri0 (uh D6).2.1;have hT7:=Typed.setCell (w:=w6) (b:=w.heap.size) (e:=113) ⟨_,_,(uh D6).1⟩ ⟨w.heap.size+1,2,none⟩ (.slice af nf cf);have kS:=zh ((Keeps.setCell ⟨w.heap.size+1,2,none⟩ (.slice af nf cf) ⟨_,_,(uh D6).2.1⟩ (by decide:113≠168)).trans (store3 hT7 (.int .i64 ((c - 97:Nat):Int)) (.slice ap PL.1.length cp) (.slice af nf cf) 168 (by decide)));have hgg:=zh (z25 (uh D6).2.2.1 (w.heap.size+1) 2 (.slice af nf cf) (by omega));have hcc:=zh ((uh D6).2.2.2.2.1.setCell (w.heap.size+1) 2 (.slice af nf cf) (Ne.symm hne2));clear hT7;generalize hok:(FL.2.2&&decide (0 < FL.1.length))=ok at *;have HOK:=zh hok;clear hok;go_wp2
     refine bodyPost_ret (v:=.tuple #[.agg #[.int .i64 ((c - 97:Nat):Int),.slice ap PL.1.length cp,.slice af nf cf],.bool ok]) (by simp[results,Tryz.results178,go_sem,r0,r1,r2]) rfl ?_;refine⟨_,_,_,_,_,_,_,by rw[uh HZ] <;> rfl,fun h=>by rw[uh HZ] at h ⊢; exact⟨_,_,rfl,(uh D6).2.2.2.1.keep (uh kS),((uh D6).2.2.2.2.2.2 (by have h2:=(uh HOK).trans h; simp at h2; exact h2.1)).keep (uh kS)⟩,?_,?_,z25 (z25 (z25 (uh hgg) _ _ _ (Nat.le_refl _)) _ _ _ (Nat.le_refl _)) _ _ _ (Nat.le_refl _),lo3 (uh HLP) (uh HLF)⟩
     ·rw[uh HZ]; exact(((uh hcc).setCell _ _ _ (Ne.symm hne1)).setCell _ _ _ (Ne.symm hne1)).setCell _ _ _ (Ne.symm hne1)
     ·rw[uh HZ]; exact(uh D6).2.2.2.2.2.1
def CTn (w:World) (t:Tn) (cs:List Value):Prop:=∃vj,cs=[.int .i64 t.start,vj]/\Ints w vj t.jny
theorem CTn.keep {w w':World} {t:Tn} {cs:List Value} (h:CTn w t cs) (k:Keeps 3 w w'):CTn w' t cs:=by
 obtain⟨vj,e,a⟩:=h;exact⟨vj,e,a.keep k⟩
def z1c (s:ByteArray) (p:Nat):Bool×Nat×Tn:=
 if inB 97 112 (pk s p)=false then (false,p,Tn0)
 else (decide (0 < (capsL s 300 (p+1)).1.length),(capsL s 300 (p+1)).2,⟨pk s p - 97,(capsL s 300 (p+1)).1⟩)
theorem store2 {W:World} {b:Nat} {t:TypeId} (hT:Typed W b t) (u0 u1:Value):(∀e,t≠e->Keeps e W ((W.setCell ⟨b,0,none⟩ u0).setCell ⟨b,1,none⟩ u1)):=by
 have h1:=hT.setCell ⟨b,0,none⟩ u0;exact fun e he=>(Keeps.setCell ⟨b,0,none⟩ u0 hT he).trans (Keeps.setCell ⟨b,1,none⟩ u1 h1 he)
theorem gr_drew {w w1:World} {r:Option Nat} (h:w.grownBy w1 r):w.grownBy w1.drew r:=⟨h.os,h.tape,h.output,h.size,h.block⟩
theorem z3e {w:World} {B:Nat} {e e':TypeId} {size n:Nat} {v:Value} {xs:List Value} (h:w.ownsRow B e size v n xs) (g j:Nat) (u:Value) (hT:Typed w g e') (hne:e'≠e):(w.setCell ⟨g,j,none⟩ u).ownsRow B e size v n xs:=
 z06 h (Keeps.setCell ⟨g,j,none⟩ u hT hne)
set_option maxHeartbeats 1000000 in
theorem train_clo (b:Nat) (s:ByteArray) (p:Nat) (w:World) (h:Cur w b s p) (hs:s.size<=256) (hp:p<=s.size) :
  Calls Tryz.prog 179 #[.pointer (some ⟨b,0,none⟩)] w fun e w'=>∃(t:Int) (a1:Option Addr) (n1 c1:Nat),e=.returned (.tuple #[.agg #[.int .i64 t,.slice a1 n1 c1],.bool (z1c s p).1]) ∧
   ((z1c s p).1=true->CTn w' (z1c s p).2.2 [.int .i64 t,.slice a1 n1 c1])/\Cur w' b s (z1c s p).2.1/\(z1c s p).2.1<=s.size/\w.grownBy w' (some b)/\LoC w.heap.size [.int .i64 t,.slice a1 n1 c1]:=by
 have hbw:=h.cells.2.2.2.2;obtain⟨i0,hi0⟩:=info_parts Tryz.infoInt;have HI:=zh hi0;clear hi0;obtain⟨Z,hZ⟩:∃Z,Z=z1c s p:=⟨_,rfl⟩
 rw[<-hZ];unfold z1c at hZ;have H1:=zh (fun w (h:Cur w b s p)=>z1y b s p w h hs hp);have h2:=(h.alloc (.cells #[.int .i64 0,.slice none 0 0] 186)).alloc (.cells #[.int .i64 0,.slice none 0 0] 186);have g2:=z51 (z51 (gr_refl w (some b)) (.cells #[.int .i64 0,.slice none 0 0] 186)) (.cells #[.int .i64 0,.slice none 0 0] 186);have B1:=blk1 w (.cells #[.int .i64 0,.slice none 0 0] 186) (.cells #[.int .i64 0,.slice none 0 0] 186);have B2:=blk2 w (.cells #[.int .i64 0,.slice none 0 0] 186) (.cells #[.int .i64 0,.slice none 0 0] 186);have G:=zh (And.intro h2 (And.intro g2 (And.intro B1 B2)));have hne1:w.heap.size≠b:=by omega
 have hne2:w.heap.size+1≠b:=by omega
 have HZ:=zh hZ;clear h2 g2 B1 B2 hZ;go_enter Tryz.func179,Tryz.ntmps179
 go_wp2_with fail
 refine(uh H1 _ (uh G).1).mono ?_;rintro e w1 ⟨rfl,a1,a2,a3⟩;have D:=zh (And.intro (z1t (uh G).2.2.1 a3 hne1) (And.intro (z1t (uh G).2.2.2 a3 hne2) (z1e (uh G).2.1 a3)));have A:=zh (And.intro a1 a2);clear G a1 a2 a3;obtain⟨⟨r0,r1⟩,⟨f0,f1⟩,q1⟩:=duo0 (uh D).1;obtain⟨⟨l0,l1⟩,⟨k0,k1⟩,q2⟩:=duo0 (uh D).2.1;cases hin:inB 97 112 (pk s p) with
 | false=>
  rw[hin,if_pos rfl] at HZ;rw[hin] at A;clear hin;go_wp2
  refine bodyPost_ret (v:=.tuple #[.agg #[.int .i64 0,.slice none 0 0],.bool false]) (by simp[results,Tryz.results179,go_sem,r0,r1]) rfl ?_;refine⟨_,_,_,_,by rw[uh HZ] <;> rfl,fun h=>absurd h (by rw[uh HZ]; simp),?_,?_,z25 (z25 (uh D).2.2 _ _ _ (Nat.le_refl _)) _ _ _ (Nat.le_refl _),lo2 (Lo.nil _ _ _)⟩
  ·rw[uh HZ]; exact((uh A).1.setCell _ _ _ (Ne.symm hne1)).setCell _ _ _ (Ne.symm hne1)
  ·rw[uh HZ]; exact(uh A).2
 | true=>
  rw[hin,if_neg (by simp)] at HZ;rw[hin] at A;have hoff:offB 97 112 (pk s p)=pk s p - 97:=by unfold offB; rw[hin]; rfl
  rw[hoff];clear hin hoff;have hp1:p+1<=s.size:=(uh A).2;have hc256:=pk_lt s p;generalize pk s p=c at *;have hL2:=z0b (j:=0) (.int .i64 ((c - 97:Nat):Int)) (uh D).2.1;have hR2:(w1.setCell ⟨w.heap.size+1,0,none⟩ (.int .i64 ((c - 97:Nat):Int))).heap[w.heap.size]?=_:=(Below.heap_setCell w1 ⟨w.heap.size+1,0,none⟩ (.int .i64 ((c - 97:Nat):Int)) w.heap.size (by simp)).trans (uh D).1;have hG2:=z25 (uh D).2.2 (w.heap.size+1) 0 (.int .i64 ((c - 97:Nat):Int)) (by omega);have hC2:=(uh A).1.setCell (w.heap.size+1) 0 (.int .i64 ((c - 97:Nat):Int)) (Ne.symm hne2);have H3:=zh (z4y b s (p+1) _ hC2 hs hp1);have D2:=zh (And.intro hR2 (And.intro hL2 hG2));clear D A hL2 hR2 hG2 hC2;go_wp2_with fail
  refine(uh H3).mono ?_;rintro e w3 ⟨rfl,a1,a2,a3⟩;have hL3:w3.heap[w.heap.size+1]?=some (.cells #[.int .i64 ((c - 97:Nat):Int),.slice none 0 0] 186 (0,0)):=z1t (uh D2).2.1 a3 hne2;have A:=zh (And.intro (z1t (uh D2).1 a3 hne1) (And.intro hL3 (And.intro (z1e (uh D2).2.2 a3) (And.intro a1 a2))));obtain⟨CL,hCL⟩:∃CL,CL=capsL s 300 (p+1):=⟨_,rfl⟩
  rw[<-hCL] at HZ;have HCL:=zh hCL;clear D2 H3 r0 r1 f0 f1 q1 l0 l1 k0 k1 q2 a1 a2 a3 hL3 hCL;go_wp2
  go_loopg [7,6] 300 (fun f n t wr=>∃q:Nat,∃acc vj,n=.int .i64 (offB 65 76 (pk s q):Nat)/\t=.bool (inB 65 76 (pk s q))/\acc.length<=q/\q<=s.size/\s.size < q+f ∧
    wr.ownsRow (w.heap.size+2) 3 1 vj acc.length (intsV acc)/\CL=(acc++(capsL s f q).1,(capsL s f q).2)/\wr.heap[w.heap.size]?=some (.cells #[.int .i64 0,.slice none 0 0] 186 (0,0)) ∧
    wr.heap[w.heap.size+1]?=some (.cells #[.int .i64 ((c - 97:Nat):Int),vj] 186 (0,0))/\Cur wr b s (adv (inB 65 76 (pk s q)) q)/\adv (inB 65 76 (pk s q)) q<=s.size/\w.grownBy wr (some b))
  case atStart=>exact⟨p+1,[],_,rfl,rfl,Nat.zero_le _,hp1,by omega,World.ownsRow_nil _ _ _ _,uh HCL,(uh A).1,(uh A).2.1,(uh A).2.2.2.1,(uh A).2.2.2.2,(uh A).2.2.1⟩
  case round=>
   clear A;obtain⟨q,acc,vj,rfl,rfl,hac,hq,hf,hown,hCL2,hRB,hLB,hC,hle,hg⟩:=hrel;obtain⟨f,hfe⟩:∃f,gk=f+1:=⟨gk - 1,by omega⟩
   subst hfe;obtain⟨⟨r0,r1⟩,⟨f0,f1⟩,q1⟩:=duo0 hRB;obtain⟨⟨l0,l1⟩,⟨k0,k1⟩,q2⟩:=duo0 hLB;obtain⟨aj,cj,hvj⟩:=z02 hown;subst hvj;cases hin:inB 65 76 (pk s q) with
   | false=>
    rw[hin] at hC hle;have hCL3:CL=(acc,q):=by rw[hCL2]; simp[capsL,hin]
    rw[hCL3] at HZ;have F:=zh (And.intro (Ints.ofOwn hown rfl) (And.intro hC (And.intro hle hg)));have FLO:=zh ((Lo.of hown).mono (m:=w.heap.size) (by omega));have kS:=zh (store2 (⟨_,_,hRB⟩:Typed wr w.heap.size 186) (.int .i64 ((c - 97:Nat):Int)) (.slice aj acc.length cj) 3 (by decide));clear hown hCL2 hCL3 hC hle hg hRB hLB hin HCL;go_wp2
    go_region
    go_wp2
    refine bodyPost_ret (v:=.tuple #[.agg #[.int .i64 ((c - 97:Nat):Int),.slice aj acc.length cj],.bool (decide (0 < acc.length))]) (by simp[results,Tryz.results179,go_sem,r0,r1]) rfl ?_;refine⟨_,_,_,_,by rw[uh HZ] <;> rfl,fun _=>by rw[uh HZ]; exact⟨_,rfl,((uh F).1.keep (uh kS)).keep (Keeps.drew _ _)⟩,?_,?_,gr_drew (z25 (z25 (uh F).2.2.2 _ _ _ (Nat.le_refl _)) _ _ _ (Nat.le_refl _)),lo2 (uh FLO)⟩
    ·rw[uh HZ]; exact((uh F).2.1.setCell _ _ _ (Ne.symm hne1)).setCell _ _ _ (Ne.symm hne1)
    ·rw[uh HZ]; exact(uh F).2.2.1
   | true=>
    rw[hin] at hC hle;have hoff:offB 65 76 (pk s q)=pk s q - 65:=by unfold offB; rw[hin]; rfl
    rw[hoff];have hq1:q+1<=s.size:=hle;have HC2:=zh (show CL=((acc++[pk s q - 65])++(capsL s f (q+1)).1,(capsL s f (q+1)).2) by rw[hCL2]; simp[capsL,hin]);have hd256:=pk_lt s q;generalize pk s q=d at *;have hsz:w.heap.size<=wr.heap.size:=hg.size;have F:=zh (And.intro hRB (And.intro hLB (And.intro hC hg)));have hL:=zh (fun w' (h:Cur w' b s (q+1))=>z4y b s (q+1) w' h hs hq1);clear hCL2 hin hoff hC hRB hLB HCL hg;go_wp2_with (first
     | (at_builtin; refine wpList_append_own _ rfl _ _ 49 rfl (w.heap.size+2) 3 i0 (.int .i64 0) 1 8 Tryz.underlying49 (uh HI).1 (uh HI).2.1 (uh HI).2.2.1 (uh HI).2.2.2 rfl (by decide) _ _ _ rfl (hown.alloc _) ⟨wr.heap.size,0,none⟩ 1 1 [.int .i64 ((d - 65:Nat):Int)] rfl rfl (z0q _ _ _) (z0a rfl) (by unfold maxLen; omega) (by omega) (by simp; omega) ?_; intro v3 w3 hown3 hgrow3 _; have hR3:=(z0f hown hgrow3 (by decide) _ _ _ (uh F).1).trans (uh F).1; have hL3:=(z0f hown hgrow3 (by decide) _ _ _ (uh F).2.1).trans (uh F).2.1; obtain⟨aj',cj',hv'⟩:=z02 hown3; subst hv'; have HF3:=zh (And.intro hR3 (And.intro hL3 (And.intro ((uh F).2.2.1.own hown hgrow3 (by decide)) (gr_own (uh F).2.2.2 (by omega) hown hgrow3)))); clear l0 l1 k0 k1 q2 r0 r1 f0 f1 q1 hR3; obtain⟨⟨l0,l1⟩,⟨k0,k1⟩,q2⟩:=duo0 hL3; clear hL3)
     | (go_at_call 191; refine(uh hL _ ((uh HF3).2.2.1.setCell _ _ _ (Ne.symm hne2))).mono ?_; rintro e w4 ⟨rfl,a1,a2,a3⟩))
    have hL4:w4.heap[w.heap.size+1]?=some (.cells #[.int .i64 ((c - 97:Nat):Int),.slice aj' (acc.length+1) cj'] 186 (0,0)):=z1t (z0b (j:=1) _ (uh HF3).2.1) a3 hne2;have hR4:=z1t ((Below.heap_setCell w3 ⟨w.heap.size+1,1,none⟩ (.slice aj' (acc.length+1) cj') w.heap.size (by simp)).trans (uh HF3).1) a3 hne1;have hown4:=own_gr (z3e hown3 (w.heap.size+1) 1 (.slice aj' (acc.length+1) cj') ⟨_,_,(uh HF3).2.1⟩ (by decide)) a3 (by omega);rw[<-z0x] at hown4;go_roundg f
    case measure=>omega
    case rel=>exact⟨q+1,acc++[d - 65],_,rfl,rfl,by simp; omega,hq1,by omega,by simpa using hown4,uh HC2,hR4,hL4,a1,a2,z1e (z25 (uh HF3).2.2.2 _ _ _ (by omega)) a3⟩
def z47 (l:List UInt8):Rt:=
 ⟨(l.getD 0 0).toNat - 97,marksF ((z0v 33 [] (l.drop 2)).getD 0 []),marksF (((z0v 33 [] (l.drop 2)).drop 1).getD 0 [])⟩
theorem splitA_ne (c:UInt8) (pre l:List UInt8):z0v c pre l≠[]:=by
 induction l generalizing pre with
 | nil=>simp[z0v]
 | cons x l ih=>unfold z0v; split <;> simp[ih]
theorem z4l (c:UInt8) (pre l:List UInt8):∀p,p∈z0v c pre l->p.length<=pre.length+l.length:=by
 induction l generalizing pre with
 | nil=>intro p hp; simp[z0v] at hp; subst hp; simp
 | cons x l ih=>
  intro p hp;unfold z0v at hp;split at hp
  ·rcases List.mem_cons.1 hp with h | h
   ·subst h; simp
   ·have:=ih [] p h; simp at this ⊢; omega
  ·have:=ih _ p hp; simp at this ⊢; omega
set_option maxHeartbeats 1000000 in
theorem route_lo (s:ByteArray) (w:World) (h2:2<=s.size) (hs:s.size<=1000) (h97:97<=(s.data.toList.getD 0 0).toNat) :
  Calls Tryz.prog 137 #[.string s] w fun e w'=>∃vp vs vf vl,e=.returned (.agg #[.int .i64 (z47 s.data.toList).foot,vp,vs,vf,vl])/\CRRt w' (z47 s.data.toList) [.int .i64 (z47 s.data.toList).foot,vp,vs,vf,vl]/\Below w.heap.size w w'/\LoC w.heap.size [.int .i64 (z47 s.data.toList).foot,vp,vs,vf,vl]:=by
 have HC0:=zh (show s[0]=s.data.toList.getD 0 0 by rw[List.getD_eq_getElem?_getD,List.getElem?_eq_getElem (by simp; omega)]; rfl);obtain⟨c,hce⟩:∃c,s[0].toNat=c:=⟨_,rfl⟩
 have hc256:c < 256:=by rw[<-hce]; exact s[0].toNat_lt
 rw[<-uh HC0,hce] at h97;have HFT:=zh (show (z47 s.data.toList).foot=c - 97 by rw[z47,<-uh HC0,hce]);have HE:=zh (show (s.extract 2 s.size).data.toList=s.data.toList.drop 2 by
  rw[z3d,List.take_of_length_le (by simp)])
 have hes:(s.extract 2 s.size).size<=1000:=by
  have:=congrArg List.length (uh HE);simp at this;show (s.extract 2 s.size).data.size<=1000;simp; omega
 obtain⟨P,hP⟩:∃P,P=z0v 33 [] (s.data.toList.drop 2):=⟨_,rfl⟩
 have HP:=zh hP;have hPl:∀p,p∈P->p.length<=1000:=by
  intro p hp; rw[hP] at hp;have:=z4l _ _ _ p hp;simp at this; omega
 have hP0:0 < P.length:=by rw[hP]; exact List.length_pos_iff.2 (splitA_ne _ _ _)
 have HPP:=zh (show (z47 s.data.toList).path=marksF (P[0]'hP0) by
  rw[z47,<-hP];show marksF (P.getD 0 [])=_;rw[List.getD_eq_getElem?_getD,List.getElem?_eq_getElem hP0]; rfl)
 have HFF:=zh (show (z47 s.data.toList).flank=marksF ((P.drop 1).getD 0 []) by rw[z47,<-hP]);clear hP;generalize z47 s.data.toList=R at *;go_enter Tryz.func137,Tryz.ntmps137
 go_wp2_with fail
 refine(split_any _ 33 _ hes).mono ?_;rw[uh HE,<-uh HP];rintro e w1 ⟨v1,rfl,hS1,hb1⟩;obtain⟨ao,cap,rfl,b1,b2,b3⟩:=SlAt.open hS1;obtain⟨g,off,rfl,hg,cs,-,hC,hc⟩:=b3 0 hP0;unfold CStr at hC;subst hC;have hc0:=hc 0 (by omega);simp[strV] at hc0;have HB1:=zh hb1;have hz1:=hb1.size;have HS1:=zh hS1;clear hb1 hc hS1;unfold maxLen at b2;have hml:(⟨(P[0]'hP0).toArray⟩:ByteArray).size<=1000:=by
  have:=hPl _ (List.getElem_mem hP0);show (P[0]'hP0).toArray.size<=1000
  simpa using this
 have HM0:=zh (marks_lo ⟨(P[0]'hP0).toArray⟩ w1 hml);simp only at HM0;rw[<-uh HPP] at HM0;go_wp2_with fail
 refine(uh HM0).mono ?_;rintro e w2 ⟨vp,vs,rfl,hI2,hY2,hb2,hlp,hls⟩;have HLP:=zh (And.intro (hlp.mono (m:=w.heap.size) (by simp at hz1; omega)) (hls.mono (m:=w.heap.size) (by simp at hz1; omega)));clear hlp hls;have HI2:=zh hI2;have HY2:=zh hY2;obtain⟨aop,capp,rfl,-,-,-⟩:=SlAt.open hI2;obtain⟨aos,caps,rfl,-,-,-⟩:=SlAt.open hY2;have hz2:=hb2.size;have HB2:=zh hb2;have hft:(c:Int) - 97=(R.foot:Int):=by rw[uh HFT]; omega
 have HR:=zh hft;have hbR:Below (w.heap.size+1) (w.alloc (.cells #[.int .i64 0,.slice none 0 0,.slice none 0 0,.slice none 0 0,.slice none 0 0] 159)) w2:=
  ((uh HB1).mono (by simp)).trans (hb2.mono (by simp at hz1; omega))
 have HBR:=zh hbR;obtain⟨⟨z0,z1,z2,z3,z4⟩,⟨x0,x1,x2,x3,x4⟩,qs⟩:=five hbR;clear hb2 hI2 hY2 hc0 hft hbR hz1;by_cases hp1:1 < P.length
 ·obtain⟨g',off',hao,hg',cs2,-,hC2,hd⟩:=b3 1 hp1
  simp only[Option.some.injEq,Addr.mk.injEq,and_true] at hao;obtain⟨rfl,rfl⟩:=hao;unfold CStr at hC2;subst hC2;have hd0:=hd 0 (by omega);rw[<-(uh HB2).cell (p:=⟨g,_,none⟩) hg] at hd0;simp[strV] at hd0;have hgw2:g < w2.heap.size:=by omega
  have hp1':(1:Int) < P.length:=by omega
  have hml1:(⟨(P[1]'hp1).toArray⟩:ByteArray).size<=1000:=by
   have:=hPl _ (List.getElem_mem hp1);show (P[1]'hp1).toArray.size<=1000
   simpa using this
  have HM1:=zh (fun w=>marks_lo ⟨(P[1]'hp1).toArray⟩ w hml1);simp only at HM1;rw[show marksF (P[1]'hp1)=R.flank by rw[uh HFF,List.getD_eq_getElem?_getD,List.getElem?_drop,List.getElem?_eq_getElem hp1]; rfl] at HM1;clear hd b3;go_wp2_with fail
  refine(uh HM1 _).mono ?_;rintro e w4 ⟨vf,vl,rfl,hI4,hY4,hb4,hlf,hll⟩;have HLF:=zh (And.intro (hlf.mono (m:=w.heap.size) (by simp; omega)) (hll.mono (m:=w.heap.size) (by simp; omega)));clear hlf hll;have HI4:=zh hI4;have HY4:=zh hY4;obtain⟨aof,capf,rfl,-,-,-⟩:=SlAt.open hI4;obtain⟨aol,capl,rfl,-,-,-⟩:=SlAt.open hY4;have hbX:Below (w2.heap.size+1) (w2.alloc (.cells #[.int .i64 ((c:Int) - 97),.slice aop (secs R.path).length capp,.slice aos (signs R.path).length caps,.slice none 0 0,.slice none 0 0] 159)) w4:=hb4.mono (by simp);have hbY:Below (w.heap.size+1) (w.alloc (.cells #[.int .i64 0,.slice none 0 0,.slice none 0 0,.slice none 0 0,.slice none 0 0] 159)) w4:=(uh HBR).trans ((z09 hbX).mono (by omega));clear z0 z1 z2 z3 z4 x0 x1 x2 x3 x4 hd0 hI4 hY4 hb4;obtain⟨⟨z0,z1,z2,z3,z4⟩,⟨x0,x1,x2,x3,x4⟩,qs4⟩:=five hbY;obtain⟨⟨y0,y1,y2,y3,y4⟩,⟨f0,f1,f2,f3,f4⟩,qs5⟩:=five hbX;have hne:w.heap.size≠w2.heap.size:=by omega
  have hne':w2.heap.size≠w.heap.size:=by omega
  have HBX:=zh hbX;have HBY:=zh hbY;clear hbX hbY;go_wp2
  have hT2:Typed w4 w2.heap.size 159:=(Typed.new w2 _ _).below (uh HBX) (by omega);have hT1:Typed w4 w.heap.size 159:=(Typed.new w _ _).below (uh HBY) (by omega);have hT3:=(hT1.setCell ⟨w2.heap.size,3,none⟩ (.slice aof (secs R.flank).length capf)).setCell ⟨w2.heap.size,4,none⟩ (.slice aol (signs R.flank).length capl);have hS:=store5 hT3 (.int .i64 R.foot) (.slice aop (secs R.path).length capp) (.slice aos (signs R.path).length caps) (.slice aof (secs R.flank).length capf) (.slice aol (signs R.flank).length capl);have kS:=fun e (he:159≠e)=>((Keeps.setCell (e:=e) ⟨w2.heap.size,3,none⟩ (.slice aof (secs R.flank).length capf) hT2 he).trans (Keeps.setCell ⟨w2.heap.size,4,none⟩ (.slice aol (signs R.flank).length capl) (hT2.setCell ⟨w2.heap.size,3,none⟩ (.slice aof (secs R.flank).length capf)) he)).trans (hS.1 e he);have hb9:=((((z09 (uh HBY)).setCell (p:=⟨w2.heap.size,3,none⟩) (by show w.heap.size<=w2.heap.size; omega) (.slice aof (secs R.flank).length capf)).setCell (p:=⟨w2.heap.size,4,none⟩) (by show w.heap.size<=w2.heap.size; omega) (.slice aol (signs R.flank).length capl)).trans (hS.2 _ (Nat.le_refl _)))
  have kX:=fun e=>Keeps.below (e:=e) (z09 (uh HBX));rw[uh HR];refine bodyPost_ret (v:=.agg #[.int .i64 R.foot,.slice aop (secs R.path).length capp,.slice aos (signs R.path).length caps,.slice aof (secs R.flank).length capf,.slice aol (signs R.flank).length capl]) (by simp[results,Tryz.results137,go_sem,z0,z1,z2,z3,z4]) rfl ?_;refine⟨_,_,_,_,rfl,⟨_,_,_,_,rfl,((uh HI2).keep (kX _)).keep (kS _ (by decide)),((uh HY2).keep (kX _)).keep (kS _ (by decide)),(uh HI4).keep (kS _ (by decide)),(uh HY4).keep (kS _ (by decide))⟩,hb9,lo5 (uh HLP) (uh HLF)⟩
 ·have hp1':¬(1:Int) < P.length:=by omega
  have hfl:R.flank=[]:=by
   rw[uh HFF,List.getD_eq_getElem?_getD,List.getElem?_drop,List.getElem?_eq_none (by omega)]; rfl
  have HFL:=zh hfl;clear b3 hfl;go_wp2
  have hT:Typed w2 w.heap.size 159:=(Typed.new w _ _).below (uh HBR) (by omega);have hS:=store5 hT (.int .i64 R.foot) (.slice aop (secs R.path).length capp) (.slice aos (signs R.path).length caps) (.slice none 0 0) (.slice none 0 0);have k3:=fun o=>(hS.1 3 (by decide)).trans (Keeps.below (z01 _ o));have k5:=fun o=>(hS.1 5 (by decide)).trans (Keeps.below (z01 _ o));have hb9:=fun o=>(((z09 (uh HBR)).trans (hS.2 _ (Nat.le_refl _))).alloc (B:=w.heap.size) (by simp[World.setCell]; omega) o)
  rw[uh HR];refine bodyPost_ret (v:=.agg #[.int .i64 R.foot,.slice aop (secs R.path).length capp,.slice aos (signs R.path).length caps,.slice none 0 0,.slice none 0 0]) (by simp[results,Tryz.results137,go_sem,z0,z1,z2,z3,z4,qs]) rfl ?_;refine⟨_,_,_,_,rfl,⟨_,_,_,_,rfl,(uh HI2).keep (k3 _),(uh HY2).keep (k5 _),?_,?_⟩,hb9 _,lo5 (uh HLP) ⟨Lo.nil _ _ _,Lo.nil _ _ _⟩⟩
  ·rw[uh HFL]; exact SlAt.nil _ _ _ _
  ·rw[uh HFL]; exact SlAt.nil _ _ _ _
end Go.Proofs.YtkbpocecbcaiiabGreatDoor
