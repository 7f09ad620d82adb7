import Derived.WalkKit
import Derived.WalkSpells
import Derived.Test.YtkbpocecbcaiiabGreatDoorProg
import Derived.Deep.QuietTactic
import Derived.BigQuiet
import Derived.WalkSmall
import Derived.KernelRfl
namespace Go.Proofs.YtkbpocecbcaiiabGreatDoor
open Go.RowKit
theorem zh {p:Prop} (h:p):Hid p:=h
theorem uh {p:Prop} (h:Hid p):p:=h
theorem z2i {k:IntKind} {a b:Int} (h:a=b):Ending.returned (.int k a)=.returned (.int k b):=by rw[h]
theorem z04 {a b:Bool} (h:a=b):Ending.returned (.bool a)=.returned (.bool b):=by rw[h]
def SlAt {α:Type} (e:TypeId) (sz:Nat) (C:World->α->List Value->Prop) (w:World) (v:Value) (l:List α):Prop:=
 ∃ao cap,v=.slice ao l.length cap/\l.length<=cap/\cap<=maxLen/\(l=[]\/∃(g off:Nat) (cur:Array Value) (fr:Nat×Nat),ao=some ⟨g,off,none⟩/\w.heap[g]?=some (Obj.cells cur e fr) ∧
  ∀i (h:i < l.length),∃cs:List Value,cs.length=sz/\C w l[i] cs/\∀j,j < sz->cur[off+i*sz+j]?=cs[j]?)
def Keeps (e:TypeId) (w w':World):Prop:=∀(g:Nat) (cur:Array Value) (fr:Nat×Nat),w.heap[g]?=some (Obj.cells cur e fr)->w'.heap[g]?=w.heap[g]?
theorem Keeps.trans {e:TypeId} {a b c:World} (h:Keeps e a b) (k:Keeps e b c):Keeps e a c:=
 fun g cur fr hg=>(k g cur fr ((h g cur fr hg).trans hg)).trans (h g cur fr hg)
theorem Keeps.below {e:TypeId} {w w':World} (h:Below w.heap.size w w'):Keeps e w w':=fun g cur fr hg=>h.block g (by
 rcases Nat.lt_or_ge g w.heap.size with h | h
 ·exact h
 ·rw[Array.getElem?_eq_none h] at hg; cases hg)
theorem SlAt.keep {α:Type} {e:TypeId} {sz:Nat} {C:World->α->List Value->Prop} {w w':World} {v:Value} {l:List α}
  (h:SlAt e sz C w v l) (hk:Keeps e w w') (hC:∀x cs,C w x cs->C w' x cs):SlAt e sz C w' v l:=by
 obtain⟨ao,cap,hv,h1,h2,h3⟩:=h;refine⟨ao,cap,hv,h1,h2,?_⟩;rcases h3 with h3 | ⟨g,off,cur,fr,ha,hg,hc⟩
 ·exact .inl h3
 ·refine .inr ⟨g,off,cur,fr,ha,(hk g cur fr hg).trans hg,fun i hi=>?_⟩
  obtain⟨cs,a,b,c⟩:=hc i hi;exact⟨cs,a,hC _ _ b,c⟩
theorem z1j {w:World} {g:Nat} {cur:Array Value} {e:TypeId} {fr:Nat×Nat} (h:w.heap[g]?=some (Obj.cells cur e fr)) (o:Nat) :
  w.cell? ⟨g,o,none⟩=cur[o]?:=by simp[World.cell?,h]
theorem SlAt.open {α:Type} {e:TypeId} {sz:Nat} {C:World->α->List Value->Prop} {w:World} {v:Value} {l:List α} (h:SlAt e sz C w v l) :
  ∃ao cap,v=.slice ao l.length cap/\l.length<=cap/\cap<=maxLen/\∀i (_:i < l.length),∃g off,ao=some ⟨g,off,none⟩/\g < w.heap.size ∧
   ∃cs:List Value,cs.length=sz/\C w l[i] cs/\∀j,j < sz->w.cell? ⟨g,off+i*sz+j,none⟩=cs[j]?:=by
 obtain⟨ao,cap,hv,h1,h2,h3⟩:=h;refine⟨ao,cap,hv,h1,h2,fun i hi=>?_⟩;rcases h3 with h3 | ⟨g,off,cur,fr,ha,hg,hc⟩
 ·subst h3; simp at hi
 ·obtain⟨cs,a,b,c⟩:=hc i hi
  refine⟨g,off,ha,?_,cs,a,b,fun j hj=>(z1j hg _).trans (c j hj)⟩;rcases Nat.lt_or_ge g w.heap.size with h | h
  ·exact h
  ·rw[Array.getElem?_eq_none h] at hg; cases hg
def CInt (_:World) (x:Nat) (cs:List Value):Prop:=cs=[.int .i64 x]
def CByte (_:World) (x:Nat) (cs:List Value):Prop:=cs=[.int .u8 x]
def CBool (_:World) (x:Bool) (cs:List Value):Prop:=cs=[.bool x]
def strV (x:List UInt8):Value:=.string ⟨x.toArray⟩
def CStr (_:World) (x:List UInt8) (cs:List Value):Prop:=cs=[strV x]
theorem SlAt.ofOwn {α:Type} {e:TypeId} {C:World->α->List Value->Prop} {w:World} {base:Nat} {v:Value} {l:List α} {n:Nat} (f:α->Value)
  (h:w.ownsRow base e 1 v n (l.map f)) (hn:n=l.length) (hC:∀x,C w x [f x]):SlAt e 1 C w v l:=by
 subst hn;obtain⟨-,h⟩:=h;rcases h with ⟨rfl,h0⟩ | ⟨g,cap,cur,rfl,-,hg,h1,h2,h3,h4⟩
 ·have:l=[]:=List.length_eq_zero_iff.1 h0
  subst this;exact⟨none,0,rfl,Nat.le_refl _,Nat.zero_le _,.inl rfl⟩
 ·refine⟨some ⟨g,0,none⟩,cap,rfl,h1,h2,.inr ⟨g,0,cur,(0,0),rfl,hg,fun i hi=>⟨[f l[i]],rfl,hC _,fun j hj=>?_⟩⟩⟩
  obtain rfl:j=0:=by omega
  have:(cur.toList.take (l.length*1))[i]?=(l.map f)[i]?:=by rw[h4]
  rw[List.getElem?_take_of_lt (by omega)] at this
  simpa [List.getElem?_map,List.getElem?_eq_getElem hi] using this
theorem z0p {B:Nat} {w wr w1:World} {o:Obj} {v:Value} {e:TypeId} {size n:Nat} {xs:List Value} (hb:Below B w wr) (hB:B<=wr.heap.size)
  (hown:wr.ownsRow B e size v n xs) (hg:(wr.alloc o).grownBy w1 v.ownBlock):Below B w w1:=
 (hb.alloc hB o).grown hg (by simp; omega) (fun k hk=>(hown.lt k hk).1)
theorem z0q (w:World) (x:Value) (t:TypeId):∀(j:Nat) (u:Value),[x][j]?=some u->(w.alloc (.cells #[x] t)).cell? ((⟨w.heap.size,0,none⟩:Addr).add j)=some u:=by
 intro j u hj
 match j,hj with
 | 0,hj=>simp at hj; subst hj; simp[Addr.add]
theorem z0a {x:Value} (h:x.oneCell'=true):∀u,u∈[x]->u.oneCell'=true:=by
 intro u hu; simp at hu; subst hu; exact h
def intsV (l:List Nat):List Value:=l.map (fun x:Nat=>Value.int .i64 x)
def bytsV (l:List Nat):List Value:=l.map (fun x:Nat=>Value.int .u8 x)
def z17 (l:List Bool):List Value:=l.map Value.bool
def strsV (l:List (List UInt8)):List Value:=l.map strV
theorem z0x (l:List Nat) (x:Nat):intsV (l++[x])=intsV l++[Value.int .i64 x]:=by simp[intsV]
theorem z2g (l:List Nat) (x:Nat):bytsV (l++[x])=bytsV l++[Value.int .u8 x]:=by simp[bytsV]
theorem z3c (l:List Bool) (x:Bool):z17 (l++[x])=z17 l++[Value.bool x]:=by simp[z17]
theorem z5d (l:List (List UInt8)) (x:List UInt8):strsV (l++[x])=strsV l++[strV x]:=by simp[strsV]
end Go.Proofs.YtkbpocecbcaiiabGreatDoor
namespace Go.Proofs.YtkbpocecbcaiiabGreatDoor
structure Rt where
 foot:Nat
 path:List (Nat×Nat)
 flank:List (Nat×Nat)
structure Tn where
 start:Nat
 jny:List Nat
structure Lay where
 T:Nat
 D:Nat
 Q:Nat
 sw:List Bool
 rts:List Rt
 tns:List Tn
def lastN (p:List (Nat×Nat)):Nat:=(p.getLastD (0,0)).1
def Rt0:Rt:=⟨0,[],[]⟩
def Tn0:Tn:=⟨0,[]⟩
def Lay.rt (L:Lay) (r:Nat):Rt:=L.rts.getD r Rt0
def Lay.tn (L:Lay) (t:Nat):Tn:=L.tns.getD t Tn0
def Lay.endOf (L:Lay) (r:Nat):Nat:=lastN (L.rt r).path
def Lay.Paths (L:Lay):Prop:=∀r,r∈L.rts->r.path≠[]
def Lay.Jnys (L:Lay):Prop:=∀t,t∈L.tns->∀r,r∈t.jny->r < L.rts.length
def secs (p:List (Nat×Nat)):List Nat:=p.map (·.1)
def signs (p:List (Nat×Nat)):List Nat:=p.map (·.2)
def has (p:List (Nat×Nat)) (s:Nat):Bool:=(secs p).contains s
def Lay.endsB (L:Lay) (s:Nat):Bool:=L.rts.any (fun r=>lastN r.path==s)
def Lay.flankedB (L:Lay) (s:Nat):Bool:=L.rts.any (fun r=>has r.flank s)
def Lay.doneB (L:Lay) (at_:List Nat) (t:Nat):Bool:=decide ((L.tn t).jny.length<=at_.getD t 0)
def Lay.holds (L:Lay) (at_:List Nat) (t:Nat):Option Nat:=
 if L.doneB at_ t then none
 else if at_.getD t 0=0 then some (L.tn t).start
 else some (L.endOf ((L.tn t).jny.getD (at_.getD t 0 - 1) 0))
def hits (p:List Nat):Option Nat->Bool
 | none=>false
 | some s=>p.contains s
def Lay.runsB (L:Lay) (at_:List Nat) (t:Nat):Bool:=
 ((L.tn t).jny.drop (at_.getD t 0)).all (fun r=>(List.range at_.length).all (fun o=>o==t||!hits (secs (L.rt r).path) (L.holds at_ o)))
def Lay.withN (L:Lay) (at_:List Nat) (t:Nat):List Nat:=at_.set t (L.tn t).jny.length
def Lay.allDone (L:Lay) (at_:List Nat):Bool:=(List.range at_.length).all (fun t=>L.doneB at_ t)
def Lay.soundF (L:Lay):Nat->List Nat->Bool
 | 0,at_=>L.allDone at_
 | f+1,at_=>L.allDone at_||(List.range at_.length).any (fun t=>!L.doneB at_ t&&L.runsB at_ t&&L.soundF f (L.withN at_ t))
def Lay.sound (L:Lay) (at_:List Nat):Bool:=L.soundF at_.length at_
def Lay.big (L:Lay):Bool:=
 decide (16 < L.sw.length)||decide (12 < L.rts.length)||decide (5 < L.tns.length) ||
 L.rts.any (fun r=>decide (6 < r.path.length)||decide (4 < r.flank.length))||L.tns.any (fun t=>decide (8 < t.jny.length))
def Lay.badPath (L:Lay) (r:Rt) (i:Nat):Bool:=
 decide (L.sw.length<=(r.path.getD i (0,0)).1)||decide (1 < ((secs r.path).filter (·==(r.path.getD i (0,0)).1)).length)||(r.path.getD i (0,0)).1==r.foot ||
 (L.sw.getD (r.path.getD i (0,0)).1 false != ((r.path.getD i (0,0)).2 != 0))
def Lay.badFlank (L:Lay) (r:Rt) (i:Nat):Bool:=
 decide (L.sw.length<=(r.flank.getD i (0,0)).1)||decide (1 < ((secs r.flank).filter (·==(r.flank.getD i (0,0)).1)).length)||has r.path (r.flank.getD i (0,0)).1 ||
 L.endsB (r.flank.getD i (0,0)).1||!L.sw.getD (r.flank.getD i (0,0)).1 false
def Lay.crooked (L:Lay) (r:Rt):Bool:=
 decide (L.sw.length<=r.foot)||(List.range r.path.length).any (L.badPath r)||(List.range r.flank.length).any (L.badFlank r)
def Lay.joins (L:Lay):Nat->List Nat->Bool
 | _,[]=>true
 | s,r :: l=>decide (r < L.rts.length)&&(L.rt r).foot==s&&L.joins (L.endOf r) l
def Lay.stray (L:Lay) (k:Nat):Bool:=
 decide (L.sw.length<=(L.tn k).start)||L.flankedB (L.tn k).start||(List.range k).any (fun i=>(L.tn i).start==(L.tn k).start)||!L.joins (L.tn k).start (L.tn k).jny
def z0v (c:UInt8) (pre:List UInt8):List UInt8->List (List UInt8)
 | []=>[pre]
 | x :: l=>if x=c then pre :: z0v c [] l else z0v c (pre++[x]) l
def isLet (x:UInt8):Bool:=decide (97<=x.toNat)&&decide (x.toNat<=112)
def z1a (acc:List (Nat×Nat)) (x:UInt8):List (Nat×Nat):=
 if isLet x then acc++[(x.toNat - 97,0)] else acc.set (acc.length - 1) ((acc.getD (acc.length - 1) (0,0)).1,x.toNat)
def marksF (l:List UInt8):List (Nat×Nat):=l.foldl z1a []
end Go.Proofs.YtkbpocecbcaiiabGreatDoor
namespace Go.Proofs.YtkbpocecbcaiiabGreatDoor
open Go.RowKit
def Ints (w:World) (v:Value) (l:List Nat):Prop:=SlAt 3 1 CInt w v l
def Byts (w:World) (v:Value) (l:List Nat):Prop:=SlAt 5 1 CByte w v l
def Bools (w:World) (v:Value) (l:List Bool):Prop:=SlAt 4 1 CBool w v l
def Strs (w:World) (v:Value) (l:List (List UInt8)):Prop:=SlAt 9 1 CStr w v l
def CRRt (w:World) (r:Rt) (cs:List Value):Prop:=∃vp vs vf vl,cs=[.int .i64 r.foot,vp,vs,vf,vl] ∧
 Ints w vp (secs r.path)/\Byts w vs (signs r.path)/\Ints w vf (secs r.flank)/\Byts w vl (signs r.flank)
def CRTn (w:World) (t:Tn) (cs:List Value):Prop:=∃vj,cs=[.int .i64 t.start,vj]/\Ints w vj t.jny
def RRts (w:World) (v:Value) (l:List Rt):Prop:=SlAt 159 5 CRRt w v l
def RTns (w:World) (v:Value) (l:List Tn):Prop:=SlAt 196 2 CRTn w v l
def RPlan (w:World) (v:Value) (L:Lay):Prop:=∃vh vr vt,v=.agg #[.int .i64 L.T,.int .i64 L.D,.int .i64 L.Q,vh,vr,vt] ∧
 Bools w vh L.sw/\RRts w vr L.rts/\RTns w vt L.tns
theorem Ints.keep {w w':World} {v:Value} {l:List Nat} (h:Ints w v l) (k:Keeps 3 w w'):Ints w' v l:=SlAt.keep h k (fun _ _ h=>h)
theorem Byts.keep {w w':World} {v:Value} {l:List Nat} (h:Byts w v l) (k:Keeps 5 w w'):Byts w' v l:=SlAt.keep h k (fun _ _ h=>h)
theorem Bools.keep {w w':World} {v:Value} {l:List Bool} (h:Bools w v l) (k:Keeps 4 w w'):Bools w' v l:=SlAt.keep h k (fun _ _ h=>h)
theorem Strs.keep {w w':World} {v:Value} {l:List (List UInt8)} (h:Strs w v l) (k:Keeps 9 w w'):Strs w' v l:=SlAt.keep h k (fun _ _ h=>h)
theorem CRRt.keep {w w':World} {r:Rt} {cs:List Value} (h:CRRt w r cs) (k1:Keeps 3 w w') (k2:Keeps 5 w w'):CRRt w' r cs:=by
 obtain⟨vp,vs,vf,vl,e,a,b,c,d⟩:=h;exact⟨vp,vs,vf,vl,e,a.keep k1,b.keep k2,c.keep k1,d.keep k2⟩
theorem CRTn.keep {w w':World} {r:Tn} {cs:List Value} (h:CRTn w r cs) (k1:Keeps 3 w w'):CRTn w' r cs:=by
 obtain⟨vj,e,a⟩:=h;exact⟨vj,e,a.keep k1⟩
theorem RRts.keep {w w':World} {v:Value} {l:List Rt} (h:RRts w v l) (k:Keeps 159 w w') (k1:Keeps 3 w w') (k2:Keeps 5 w w'):RRts w' v l:=
 SlAt.keep h k (fun _ _ h=>h.keep k1 k2)
theorem RTns.keep {w w':World} {v:Value} {l:List Tn} (h:RTns w v l) (k:Keeps 196 w w') (k1:Keeps 3 w w'):RTns w' v l:=
 SlAt.keep h k (fun _ _ h=>h.keep k1)
theorem RPlan.below {w w':World} {v:Value} {L:Lay} (h:RPlan w v L) (k:Below w.heap.size w w'):RPlan w' v L:=by
 obtain⟨vh,vr,vt,e,a,b,c⟩:=h;exact⟨vh,vr,vt,e,a.keep (.below k),b.keep (.below k) (.below k) (.below k),c.keep (.below k) (.below k)⟩
theorem Ints.below {w w':World} {v:Value} {l:List Nat} (h:Ints w v l) (k:Below w.heap.size w w'):Ints w' v l:=h.keep (.below k)
theorem z01 (w:World) (o:Obj):Below w.heap.size w (w.alloc o):=(Below.refl _ _).alloc (Nat.le_refl _) _
theorem Ints.ofOwn {w:World} {base:Nat} {v:Value} {l:List Nat} {n:Nat} (h:w.ownsRow base 3 1 v n (intsV l)) (hn:n=l.length):Ints w v l:=
 SlAt.ofOwn (fun x:Nat=>Value.int .i64 x) h hn (fun _=>rfl)
theorem Byts.ofOwn {w:World} {base:Nat} {v:Value} {l:List Nat} {n:Nat} (h:w.ownsRow base 5 1 v n (bytsV l)) (hn:n=l.length):Byts w v l:=
 SlAt.ofOwn (fun x:Nat=>Value.int .u8 x) h hn (fun _=>rfl)
theorem Bools.ofOwn {w:World} {base:Nat} {v:Value} {l:List Bool} {n:Nat} (h:w.ownsRow base 4 1 v n (z17 l)) (hn:n=l.length):Bools w v l:=
 SlAt.ofOwn Value.bool h hn (fun _=>rfl)
theorem Strs.ofOwn {w:World} {base:Nat} {v:Value} {l:List (List UInt8)} {n:Nat} (h:w.ownsRow base 9 1 v n (strsV l)) (hn:n=l.length):Strs w v l:=
 SlAt.ofOwn strV h hn (fun _=>rfl)
theorem z1g {w wr:World} {cs:Array Value} {t:TypeId} (hb:Below (w.heap.size+1) (w.alloc (.cells cs t)) wr) (j:Nat):wr.cell? ⟨w.heap.size,j,none⟩=cs[j]?:=by
 rw[hb.cell (p:=⟨w.heap.size,j,none⟩) (by simp)];simp only[World.cell?];rw[heap_alloc_new]; rfl
theorem box_free {w wr:World} {cs:Array Value} {t:TypeId} (hb:Below (w.heap.size+1) (w.alloc (.cells cs t)) wr) (j:Nat):wr.frozen? ⟨w.heap.size,j,none⟩=false:=by
 rw[hb.frozen (p:=⟨w.heap.size,j,none⟩) (by simp)];simp only[World.frozen?];rw[heap_alloc_new]; simp
theorem box_size {w wr:World} {o:Obj} (hb:Below (w.heap.size+1) (w.alloc o) wr):w.heap.size < wr.heap.size:=by
 have:=hb.size; simp at this; omega
theorem z09 {w wr:World} {o:Obj} (hb:Below (w.heap.size+1) (w.alloc o) wr):Below w.heap.size w wr:=
 (z01 w o).trans (hb.mono (by omega))
def z1k (L:Lay) (vh vr vt:Value):Obj:=.cells #[.int .i64 L.T,.int .i64 L.D,.int .i64 L.Q,vh,vr,vt] 119
theorem z1u {w wr:World} {L:Lay} {vh vr vt:Value} (hb:Below (w.heap.size+1) (w.alloc (z1k L vh vr vt)) wr) :
  wr.cell? ⟨w.heap.size,0,none⟩=some (.int .i64 L.T)/\wr.cell? ⟨w.heap.size,1,none⟩=some (.int .i64 L.D)/\wr.cell? ⟨w.heap.size,2,none⟩=some (.int .i64 L.Q) ∧
  wr.cell? ⟨w.heap.size,3,none⟩=some vh/\wr.cell? ⟨w.heap.size,4,none⟩=some vr/\wr.cell? ⟨w.heap.size,5,none⟩=some vt/\w.heap.size < wr.heap.size:=
 ⟨z1g hb 0,z1g hb 1,z1g hb 2,z1g hb 3,z1g hb 4,z1g hb 5,box_size hb⟩
theorem z1d {B:Nat} {W0 wr:World} (hb:Below B W0 wr) {b:Nat} (hbB:b < B) {cs:Array Value} {t:TypeId} {fr:Nat×Nat} (h:W0.heap[b]?=some (.cells cs t fr)) (j:Nat):wr.cell? ⟨b,j,none⟩=cs[j]?:=by
 rw[hb.cell (p:=⟨b,j,none⟩) hbB]; exact z1j h j
theorem blk_free {B:Nat} {W0 wr:World} (hb:Below B W0 wr) {b:Nat} (hbB:b < B) {cs:Array Value} {t:TypeId} (h:W0.heap[b]?=some (.cells cs t (0,0))) (j:Nat):wr.frozen? ⟨b,j,none⟩=false:=by
 rw[hb.frozen (p:=⟨b,j,none⟩) hbB]; simp[World.frozen?,h]
theorem blk1 (w:World) (o1 o2:Obj):((w.alloc o1).alloc o2).heap[w.heap.size]?=some o1:=by
 rw[Below.heap_alloc _ _ _ (by simp),heap_alloc_new]
theorem blk2 (w:World) (o1 o2:Obj):((w.alloc o1).alloc o2).heap[w.heap.size+1]?=some o2:=by
 have:=heap_alloc_new (w.alloc o1) o2
 simpa using this
theorem z08 {w wr:World} {o1 o2:Obj} (hb:Below (w.heap.size+2) ((w.alloc o1).alloc o2) wr):Below w.heap.size w wr:=
 (((Below.refl _ _).alloc (Nat.le_refl _) _).alloc (by simp) _).trans (hb.mono (by omega))
theorem z1r {w wr:World} {o1 o2:Obj} (hb:Below (w.heap.size+2) ((w.alloc o1).alloc o2) wr):w.heap.size+1 < wr.heap.size:=by
 have:=hb.size; simp at this; omega
def rrtBox (r:Rt) (vp vs vf vl:Value):Obj:=.cells #[.int .i64 r.foot,vp,vs,vf,vl] 159
theorem z2s {w wr:World} {L:Lay} {vh vr vt:Value} {o2:Obj} (hb:Below (w.heap.size+2) ((w.alloc (z1k L vh vr vt)).alloc o2) wr) :
  wr.cell? ⟨w.heap.size,0,none⟩=some (.int .i64 L.T)/\wr.cell? ⟨w.heap.size,1,none⟩=some (.int .i64 L.D)/\wr.cell? ⟨w.heap.size,2,none⟩=some (.int .i64 L.Q) ∧
  wr.cell? ⟨w.heap.size,3,none⟩=some vh/\wr.cell? ⟨w.heap.size,4,none⟩=some vr/\wr.cell? ⟨w.heap.size,5,none⟩=some vt:=by
 have h:=blk1 w (z1k L vh vr vt) o2;exact⟨z1d hb (by omega) h 0,z1d hb (by omega) h 1,z1d hb (by omega) h 2,z1d hb (by omega) h 3,z1d hb (by omega) h 4,z1d hb (by omega) h 5⟩
theorem two_rrt {w wr:World} {o1:Obj} {r:Rt} {vp vs vf vl:Value} (hb:Below (w.heap.size+2) ((w.alloc o1).alloc (rrtBox r vp vs vf vl)) wr) :
  wr.cell? ⟨w.heap.size+1,0,none⟩=some (.int .i64 r.foot)/\wr.cell? ⟨w.heap.size+1,1,none⟩=some vp/\wr.cell? ⟨w.heap.size+1,2,none⟩=some vs ∧
  wr.cell? ⟨w.heap.size+1,3,none⟩=some vf/\wr.cell? ⟨w.heap.size+1,4,none⟩=some vl:=by
 have h:=blk2 w o1 (rrtBox r vp vs vf vl);exact⟨z1d hb (by omega) h 0,z1d hb (by omega) h 1,z1d hb (by omega) h 2,z1d hb (by omega) h 3,z1d hb (by omega) h 4⟩
def Typed (w:World) (b:Nat) (e:TypeId):Prop:=∃cur fr,w.heap[b]?=some (Obj.cells cur e fr)
theorem Typed.setCell {w:World} {b:Nat} {e:TypeId} (h:Typed w b e) (a:Addr) (u:Value):Typed (w.setCell a u) b e:=by
 obtain⟨cur,fr,h⟩:=h;by_cases hb:b=a.block
 ·subst hb
  refine⟨if a.spot.isSome=true then cur else cur.setIfInBounds a.off u,fr,?_⟩;simp only[World.setCell,Array.getElem?_modify,if_pos,h];rfl
 ·exact⟨cur,fr,by rw[Below.heap_setCell _ _ _ _ hb]; exact h⟩
theorem Typed.below {B:Nat} {w w':World} {b:Nat} {e:TypeId} (h:Typed w b e) (hb:Below B w w') (hlt:b < B):Typed w' b e:=by
 obtain⟨cur,fr,h⟩:=h;exact⟨cur,fr,(hb.block b hlt).trans h⟩
theorem Typed.new (w:World) (cs:Array Value) (e:TypeId):Typed (w.alloc (.cells cs e)) w.heap.size e:=⟨cs,(0,0),heap_alloc_new w _⟩
theorem Keeps.setCell {w:World} {e e':TypeId} (a:Addr) (u:Value) (h:Typed w a.block e') (hne:e'≠e):Keeps e w (w.setCell a u):=by
 intro g cur fr hg;refine Below.heap_setCell _ _ _ _ ?_;intro hga;subst hga;obtain⟨cur',fr',h⟩:=h;rw[h] at hg;simp at hg;exact hne hg.2.1
theorem five {w wr:World} {c0 c1 c2 c3 c4:Value} {t:TypeId} (hb:Below (w.heap.size+1) (w.alloc (.cells #[c0,c1,c2,c3,c4] t)) wr) :
  (wr.cell? ⟨w.heap.size,0,none⟩=some c0/\wr.cell? ⟨w.heap.size,1,none⟩=some c1/\wr.cell? ⟨w.heap.size,2,none⟩=some c2/\wr.cell? ⟨w.heap.size,3,none⟩=some c3/\wr.cell? ⟨w.heap.size,4,none⟩=some c4) ∧
  (wr.frozen? ⟨w.heap.size,0,none⟩=false/\wr.frozen? ⟨w.heap.size,1,none⟩=false/\wr.frozen? ⟨w.heap.size,2,none⟩=false/\wr.frozen? ⟨w.heap.size,3,none⟩=false/\wr.frozen? ⟨w.heap.size,4,none⟩=false)/\w.heap.size < wr.heap.size:=
 ⟨⟨z1g hb 0,z1g hb 1,z1g hb 2,z1g hb 3,z1g hb 4⟩,⟨box_free hb 0,box_free hb 1,box_free hb 2,box_free hb 3,box_free hb 4⟩,box_size hb⟩
theorem store5 {W:World} {b:Nat} {t:TypeId} (hT:Typed W b t) (u0 u1 u2 u3 u4:Value) :
  (∀e,t≠e->Keeps e W (((((W.setCell ⟨b,0,none⟩ u0).setCell ⟨b,1,none⟩ u1).setCell ⟨b,2,none⟩ u2).setCell ⟨b,3,none⟩ u3).setCell ⟨b,4,none⟩ u4)) ∧
  (∀B,B<=b->Below B W (((((W.setCell ⟨b,0,none⟩ u0).setCell ⟨b,1,none⟩ u1).setCell ⟨b,2,none⟩ u2).setCell ⟨b,3,none⟩ u3).setCell ⟨b,4,none⟩ u4)):=by
 have h1:=hT.setCell ⟨b,0,none⟩ u0;have h2:=h1.setCell ⟨b,1,none⟩ u1;have h3:=h2.setCell ⟨b,2,none⟩ u2;have h4:=h3.setCell ⟨b,3,none⟩ u3;exact⟨fun e he=>((((Keeps.setCell ⟨b,0,none⟩ u0 hT he).trans (Keeps.setCell ⟨b,1,none⟩ u1 h1 he)).trans (Keeps.setCell ⟨b,2,none⟩ u2 h2 he)).trans (Keeps.setCell ⟨b,3,none⟩ u3 h3 he)).trans (Keeps.setCell ⟨b,4,none⟩ u4 h4 he),
  fun B hB=>(((((Below.refl B W).setCell (p:=⟨b,0,none⟩) hB u0).setCell (p:=⟨b,1,none⟩) hB u1).setCell (p:=⟨b,2,none⟩) hB u2).setCell (p:=⟨b,3,none⟩) hB u3).setCell (p:=⟨b,4,none⟩) hB u4⟩
theorem SlAt.nil {α:Type} (e:TypeId) (sz:Nat) (C:World->α->List Value->Prop) (w:World):SlAt e sz C w (.slice none 0 0) []:=⟨none,0,rfl,Nat.le_refl _,Nat.zero_le _,.inl rfl⟩
def Lo (n:Nat) (v:Value):Prop:=∀b,v.ownBlock=some b->n<=b
theorem Lo.of {w:World} {base:Nat} {e:TypeId} {sz:Nat} {v:Value} {n:Nat} {xs:List Value} (h:w.ownsRow base e sz v n xs):Lo base v:=by
 intro b hb;rcases h.2 with ⟨rfl,-⟩ | ⟨g,cap,cur,rfl,hg,-⟩
 ·cases hb
 ·simp only[Value.ownBlock,Option.some.injEq] at hb
  omega
theorem Lo.mono {n m:Nat} {v:Value} (h:Lo n v) (hm:m<=n):Lo m v:=fun b hb=>Nat.le_trans hm (h b hb)
theorem Lo.nil (n a c:Nat):Lo n (.slice none a c):=fun b hb=>by cases hb
theorem Lo.int (n:Nat) (k:IntKind) (x:Int):Lo n (.int k x):=fun b hb=>by cases hb
def LoC (n:Nat) (cs:List Value):Prop:=∀v,v∈cs->Lo n v
theorem LoC.mono {n m:Nat} {cs:List Value} (h:LoC n cs) (hm:m<=n):LoC m cs:=fun v hv=>(h v hv).mono hm
theorem lo5 {n:Nat} {k:IntKind} {x:Int} {a b c d:Value} (h1:Lo n a/\Lo n b) (h2:Lo n c/\Lo n d):LoC n [.int k x,a,b,c,d]:=by
 intro v hv;simp only[List.mem_cons,List.not_mem_nil,or_false] at hv;rcases hv with rfl | rfl | rfl | rfl | rfl
 ·exact Lo.int _ _ _
 ·exact h1.1
 ·exact h1.2
 ·exact h2.1
 ·exact h2.2
theorem SlAt.weak {α:Type} {e:TypeId} {sz:Nat} {C C':World->α->List Value->Prop} {w:World} {v:Value} {l:List α} (h:SlAt e sz C w v l) (hC:∀x cs,C w x cs->C' w x cs):SlAt e sz C' w v l:=by
 obtain⟨ao,cap,hv,h1,h2,h3⟩:=h;refine⟨ao,cap,hv,h1,h2,?_⟩;rcases h3 with h3 | ⟨g,off,cur,fr,ha,hg,hc⟩
 ·exact .inl h3
 ·refine .inr ⟨g,off,cur,fr,ha,hg,fun i hi=>?_⟩
  obtain⟨cs,a,b,c⟩:=hc i hi;exact⟨cs,a,hC _ _ b,c⟩
theorem lo2 {n:Nat} {k:IntKind} {x:Int} {a:Value} (h:Lo n a):LoC n [.int k x,a]:=by
 intro v hv;simp only[List.mem_cons,List.not_mem_nil,or_false] at hv;rcases hv with rfl | rfl
 ·exact Lo.int _ _ _
 ·exact h
theorem lo3 {n:Nat} {k:IntKind} {x:Int} {a b:Value} (h1:Lo n a) (h2:Lo n b):LoC n [.int k x,a,b]:=by
 intro v hv;simp only[List.mem_cons,List.not_mem_nil,or_false] at hv;rcases hv with rfl | rfl | rfl
 ·exact Lo.int _ _ _
 ·exact h1
 ·exact h2
theorem SlAt.far {α:Type} {e:TypeId} {sz n:Nat} {C C':World->α->List Value->Prop} {w w':World} {v:Value} {l:List α} (h:SlAt e sz C w v l) (hl:Lo n v) (hs:∀k,n<=k->k < w.heap.size->w'.heap[k]?=w.heap[k]?)
  (hC:∀x cs,C w x cs->C' w' x cs):SlAt e sz C' w' v l:=by
 obtain⟨ao,cap,hv,h1,h2,h3⟩:=h;refine⟨ao,cap,hv,h1,h2,?_⟩;rcases h3 with h3 | ⟨g,off,cur,fr,ha,hg,hc⟩
 ·exact .inl h3
 ·refine .inr ⟨g,off,cur,fr,ha,(hs g (hl g (by rw[hv,ha]; rfl)) (by
   rcases Nat.lt_or_ge g w.heap.size with h | h
   ·exact h
   ·rw[Array.getElem?_eq_none h] at hg; cases hg)).trans hg,fun i hi=>?_⟩
  obtain⟨cs,a,b,c⟩:=hc i hi;exact⟨cs,a,hC _ _ b,c⟩
def Cur (w:World) (b:Nat) (s:ByteArray) (p:Nat):Prop:=w.heap[b]?=some (.cells #[.string s,.int .i64 p] 179 (0,0))
def pk (s:ByteArray) (p:Nat):Nat:=(s.data.toList.getD p 0).toNat
theorem pk_lt (s:ByteArray) (p:Nat):pk s p < 256:=UInt8.toNat_lt _
theorem pk_in (s:ByteArray) (p:Nat) (h:p < s.size):pk s p=s[p].toNat:=by
 unfold pk;rw[List.getD_eq_getElem?_getD,List.getElem?_eq_getElem (by simpa using h)]; rfl
theorem pk_end (s:ByteArray) (p:Nat) (h:¬p < s.size):pk s p=0:=by
 unfold pk;rw[List.getD_eq_getElem?_getD,List.getElem?_eq_none (by simp; omega)]; rfl
theorem pk_pos (s:ByteArray) (p:Nat) (h:pk s p≠0):p < s.size:=by
 rcases Nat.lt_or_ge p s.size with h' | h'
 ·exact h'
 ·exact absurd (pk_end s p (by omega)) h
theorem Cur.cells {w:World} {b:Nat} {s:ByteArray} {p:Nat} (h:Cur w b s p):w.cell? ⟨b,0,none⟩=some (.string s)/\w.cell? ⟨b,1,none⟩=some (.int .i64 p)/\w.frozen? ⟨b,0,none⟩=false/\w.frozen? ⟨b,1,none⟩=false/\b < w.heap.size:=by
 unfold Cur at h;refine⟨z1j h 0,z1j h 1,by simp[World.frozen?,h],by simp[World.frozen?,h],?_⟩;rcases Nat.lt_or_ge b w.heap.size with h' | h'
 ·exact h'
 ·rw[Array.getElem?_eq_none h'] at h; cases h
theorem Cur.set {w:World} {b:Nat} {s:ByteArray} {p:Nat} (h:Cur w b s p) (q:Nat):Cur (w.setCell ⟨b,1,none⟩ (.int .i64 q)) b s q:=by
 unfold Cur at h ⊢;rw[heap_setCell_same w b 1 _ _ _ h]; rfl
theorem ret_ib {a b:Int} {c:Bool} (h:a=b):Ending.returned (.tuple #[.int .i64 a,.bool c])=.returned (.tuple #[.int .i64 b,.bool c]):=by rw[h]
theorem gr_refl (w:World) (r:Option Nat):w.grownBy w r:=⟨rfl,rfl,rfl,Nat.le_refl _,fun _ _ _=>rfl⟩
theorem z1e {a b c:World} {r:Option Nat} (h:a.grownBy b r) (k:b.grownBy c r):a.grownBy c r:=
 ⟨k.os.trans h.os,k.tape.trans h.tape,k.output.trans h.output,Nat.le_trans h.size k.size,fun i hi hn=>(k.block i (Nat.lt_of_lt_of_le hi h.size) hn).trans (h.block i hi hn)⟩
theorem gr_set (w:World) (b j:Nat) (u:Value):w.grownBy (w.setCell ⟨b,j,none⟩ u) (some b):=
 ⟨rfl,rfl,rfl,by simp[World.setCell],fun k _ hn=>Below.heap_setCell _ _ _ _ (fun e=>hn (by rw[e]))⟩
theorem z3l (w:World) (n:Nat) (r:Option Nat):w.grownBy (w.drewN n) r:=⟨rfl,rfl,rfl,Nat.le_refl _,fun _ _ _=>rfl⟩
theorem z5e {w w':World} (h:w.grownBy w' none) (r:Option Nat):w.grownBy w' r:=⟨h.os,h.tape,h.output,h.size,fun k hk _=>h.block k hk (by simp)⟩
theorem Cur.gr {w w':World} {b:Nat} {s:ByteArray} {p:Nat} {r:Option Nat} (h:Cur w b s p) (hg:w.grownBy w' r) (hn:some b≠r):Cur w' b s p:=by
 have:=h.cells.2.2.2.2;unfold Cur at h ⊢;rw[hg.block b this hn]; exact h
set_option maxHeartbeats 400000 in
theorem peek_any (b:Nat) (s:ByteArray) (p:Nat) (w:World) (h:Cur w b s p) (hp:p<=s.size) :
  Calls Tryz.prog 177 #[.pointer (some ⟨b,0,none⟩)] w fun e w'=>e=.returned (.int .u8 (pk s p))/\w.grownBy w' none:=by
 obtain⟨h0,h1,-,-,hb⟩:=h.cells;clear h;by_cases hlt:p < s.size
 ·have HP:=zh (pk_in s p hlt)
  have d:decide ((s.size:Int)<=(p:Int))=false:=by simp; omega
  have d0:(0:Int)<=p:=by omega
  have d1:(p:Int) < s.size:=by omega
  go_enter Tryz.func177,Tryz.ntmps177
  go_wp2
  go_quiet (fail)
  go_wp2
  go_quiet (fail)
  go_wp2
  go_ret
  exact⟨z2i (by rw[uh HP]),z1e (z3l _ _ _) (z3l _ _ _)⟩
 ·have HP:=zh (pk_end s p hlt)
  have d:decide ((s.size:Int)<=(p:Int))=true:=by simp; omega
  go_enter Tryz.func177,Tryz.ntmps177
  go_wp2
  go_quiet (fail)
  go_wp2
  go_ret
  exact⟨z2i (by rw[uh HP]; rfl),z3l _ _ _⟩
def adv (c:Bool) (p:Nat):Nat:=if c then p+1 else p
set_option maxHeartbeats 400000 in
theorem z3m (b:Nat) (s:ByteArray) (p want:Nat) (w:World) (h:Cur w b s p) (hs:s.size<=256) (hp:p<=s.size) (hw:want≠0) :
  Calls Tryz.prog 156 #[.pointer (some ⟨b,0,none⟩),.int .u8 want] w fun e w'=>e=.returned (.bool (pk s p==want))/\Cur w' b s (adv (pk s p==want) p)/\adv (pk s p==want) p<=s.size/\w.grownBy w' (some b):=by
 have HPK:=zh (peek_any b s p w h hp);have HPOS:=zh (pk_pos s p);have hc256:=pk_lt s p;generalize pk s p=c at *;by_cases hc:c=want
 ·have d:((c:Int) != (want:Int))=false:=by simp; omega
  have hb:(c==want)=true:=by simpa using hc
  have hlt:=uh HPOS (by omega);rw[hb];go_enter Tryz.func156,Tryz.ntmps156
  clear hc hb;go_wp2_with fail
  refine(uh HPK).mono ?_;rintro e w1 ⟨rfl,hg1⟩;have hC1:=h.gr hg1 (by simp);obtain⟨h0,h1,h2,h3,hb1⟩:=hC1.cells;have HC1:=zh hC1;have HG1:=zh hg1;clear hC1 hg1 h;go_wp2
  go_ret
  have hcast:(p:Int)+1=((p+1:Nat):Int):=by omega
  rw[hcast];exact⟨rfl,(uh HC1).set (p+1),by show p+1<=s.size; exact hlt,z1e (z5e (uh HG1) _) (gr_set _ _ _ _)⟩
 ·have d:((c:Int) != (want:Int))=true:=by simp; omega
  have hb:(c==want)=false:=by simpa using hc
  rw[hb];go_enter Tryz.func156,Tryz.ntmps156
  clear hc hb;go_wp2_with fail
  refine(uh HPK).mono ?_;rintro e w1 ⟨rfl,hg1⟩;have HC1:=zh (h.gr hg1 (by simp));have HG1:=zh hg1;clear hg1 h;go_wp2
  go_ret
  exact⟨rfl,uh HC1,hp,z5e (uh HG1) _⟩
def inB (lo hi c:Nat):Bool:=decide (lo<=c)&&decide (c<=hi)
def offB (lo hi c:Nat):Nat:=if inB lo hi c then c - lo else 0
set_option maxHeartbeats 400000 in
theorem z4z (b:Nat) (s:ByteArray) (p lo hi:Nat) (w:World) (h:Cur w b s p) (hp:p<=s.size) (hs:s.size<=256) (hl:0 < lo) (hh:hi < 256) :
  Calls Tryz.prog 176 #[.pointer (some ⟨b,0,none⟩),.int .u8 lo,.int .u8 hi] w fun e w'=>
   e=.returned (.tuple #[.int .i64 (offB lo hi (pk s p):Nat),.bool (inB lo hi (pk s p))])/\Cur w' b s (adv (inB lo hi (pk s p)) p)/\adv (inB lo hi (pk s p)) p<=s.size/\w.grownBy w' (some b):=by
 have _:=hh;have HPK:=zh (peek_any b s p w h hp);have HPOS:=zh (pk_pos s p);have hc256:=pk_lt s p;generalize pk s p=c at *;by_cases c1:c < lo
 ·have hb:inB lo hi c=false:=by unfold inB; simp; omega
  have ho:offB lo hi c=0:=by unfold offB; rw[hb]; rfl
  rw[ho,hb];have c1':(c:Int) < lo:=by omega
  go_enter Tryz.func176,Tryz.ntmps176
  clear hb ho;go_wp2_with fail
  refine(uh HPK).mono ?_;rintro e w1 ⟨rfl,hg1⟩;have HC1:=zh (h.gr hg1 (by simp));have HG1:=zh hg1;clear hg1 h;go_wp2
  go_ret2
  exact⟨rfl,uh HC1,hp,z5e (uh HG1) _⟩
 by_cases c2:hi < c
 ·have hb:inB lo hi c=false:=by unfold inB; simp; omega
  have ho:offB lo hi c=0:=by unfold offB; rw[hb]; rfl
  rw[ho,hb];have c1':¬(c:Int) < lo:=by omega
  have c2':(hi:Int) < c:=by omega
  go_enter Tryz.func176,Tryz.ntmps176
  clear hb ho;go_wp2_with fail
  refine(uh HPK).mono ?_;rintro e w1 ⟨rfl,hg1⟩;have HC1:=zh (h.gr hg1 (by simp));have HG1:=zh hg1;clear hg1 h;go_wp2
  go_ret2
  exact⟨rfl,uh HC1,hp,z5e (uh HG1) _⟩
 ·have hb:inB lo hi c=true:=by unfold inB; simp; omega
  have ho:offB lo hi c=c - lo:=by unfold offB; rw[hb]; rfl
  have hlt:=uh HPOS (by omega);rw[ho,hb];have c1':¬(c:Int) < lo:=by omega
  have c2':¬(hi:Int) < c:=by omega
  go_enter Tryz.func176,Tryz.ntmps176
  clear hb ho;go_wp2_with fail
  refine(uh HPK).mono ?_;rintro e w1 ⟨rfl,hg1⟩;have hC1:=h.gr hg1 (by simp);obtain⟨h0,h1,h2,h3,hb1⟩:=hC1.cells;have HC1:=zh hC1;have HG1:=zh hg1;clear hC1 hg1 h;go_wp2
  go_ret2
  have hcast:(p:Int)+1=((p+1:Nat):Int):=by omega
  rw[hcast];exact⟨ret_ib (by show (c:Int) - lo=((c - lo:Nat):Int); omega),(uh HC1).set (p+1),by show p+1<=s.size; exact hlt,z1e (z5e (uh HG1) _) (gr_set _ _ _ _)⟩
set_option maxHeartbeats 400000 in
theorem z1y (b:Nat) (s:ByteArray) (p:Nat) (w:World) (h:Cur w b s p) (hs:s.size<=256) (hp:p<=s.size) :
  Calls Tryz.prog 188 #[.pointer (some ⟨b,0,none⟩)] w fun e w'=>
   e=.returned (.tuple #[.int .i64 (offB 97 112 (pk s p):Nat),.bool (inB 97 112 (pk s p))])/\Cur w' b s (adv (inB 97 112 (pk s p)) p)/\adv (inB 97 112 (pk s p)) p<=s.size/\w.grownBy w' (some b):=by
 have H:=zh (z4z b s p 97 112 w h hp hs (by omega) (by omega));generalize pk s p=c at *;generalize offB 97 112 c=n at *;generalize inB 97 112 c=t at *;go_enter Tryz.func188,Tryz.ntmps188
 go_wp2_with fail
 refine(uh H).mono ?_;rintro e w1 ⟨rfl,a1,a2,a3⟩;go_wp2
 go_ret2
 exact⟨rfl,a1,a2,a3⟩
set_option maxHeartbeats 400000 in
theorem z4y (b:Nat) (s:ByteArray) (p:Nat) (w:World) (h:Cur w b s p) (hs:s.size<=256) (hp:p<=s.size) :
  Calls Tryz.prog 191 #[.pointer (some ⟨b,0,none⟩)] w fun e w'=>
   e=.returned (.tuple #[.int .i64 (offB 65 76 (pk s p):Nat),.bool (inB 65 76 (pk s p))])/\Cur w' b s (adv (inB 65 76 (pk s p)) p)/\adv (inB 65 76 (pk s p)) p<=s.size/\w.grownBy w' (some b):=by
 have H:=zh (z4z b s p 65 76 w h hp hs (by omega) (by omega));generalize pk s p=c at *;generalize offB 65 76 c=n at *;generalize inB 65 76 c=t at *;go_enter Tryz.func191,Tryz.ntmps191
 go_wp2_with fail
 refine(uh H).mono ?_;rintro e w1 ⟨rfl,a1,a2,a3⟩;go_wp2
 go_ret2
 exact⟨rfl,a1,a2,a3⟩
def sgn (c:Nat):Nat:=if c=43 then 43 else if c=45 then 45 else 0
set_option maxHeartbeats 400000 in
theorem takeSign_any (b:Nat) (s:ByteArray) (p:Nat) (w:World) (h:Cur w b s p) (hs:s.size<=256) (hp:p<=s.size) :
  Calls Tryz.prog 194 #[.pointer (some ⟨b,0,none⟩)] w fun e w'=>
   e=.returned (.int .u8 (sgn (pk s p)))/\Cur w' b s (adv (sgn (pk s p) != 0) p)/\adv (sgn (pk s p) != 0) p<=s.size/\w.grownBy w' (some b):=by
 have H1:=zh (z3m b s p 43 w h hs hp (by omega));have H2:=zh (fun w' (h:Cur w' b s p)=>z3m b s p 45 w' h hs hp (by omega));generalize pk s p=c at *;by_cases c1:c=43
 ·subst c1
  go_enter Tryz.func194,Tryz.ntmps194
  go_wp2_with fail
  refine(uh H1).mono ?_;rintro e w1 ⟨rfl,a1,a2,a3⟩;have A:=zh (And.intro a1 (And.intro a2 a3));clear a1 a2 a3;go_wp2
  go_ret
  exact⟨rfl,(uh A).1,(uh A).2.1,(uh A).2.2⟩
 have d1:(c==43)=false:=by simpa using c1
 rw[d1] at H1;by_cases c2:c=45
 ·subst c2
  go_enter Tryz.func194,Tryz.ntmps194
  clear c1 d1;go_wp2_with fail
  refine(uh H1).mono ?_;rintro e w1 ⟨rfl,a1,a2,a3⟩;have A:=zh (And.intro a1 (And.intro a2 a3));clear a1 a2 a3;go_wp2_with fail
  refine(uh H2 _ (uh A).1).mono ?_;rintro e w2 ⟨rfl,b1,b2,b3⟩;have B:=zh (And.intro b1 (And.intro b2 b3));clear b1 b2 b3;go_wp2
  go_ret
  exact⟨rfl,(uh B).1,(uh B).2.1,z1e (uh A).2.2 (uh B).2.2⟩
 ·have d2:(c==45)=false:=by simpa using c2
  have hz:sgn c=0:=by unfold sgn; rw[if_neg c1,if_neg c2]
  rw[d2] at H2;rw[hz];go_enter Tryz.func194,Tryz.ntmps194
  clear c1 d1 c2 d2 hz;go_wp2_with fail
  refine(uh H1).mono ?_;rintro e w1 ⟨rfl,a1,a2,a3⟩;have A:=zh (And.intro a1 (And.intro a2 a3));clear a1 a2 a3;go_wp2_with fail
  refine(uh H2 _ (uh A).1).mono ?_;rintro e w2 ⟨rfl,b1,b2,b3⟩;have B:=zh (And.intro b1 (And.intro b2 b3));clear b1 b2 b3;go_wp2
  go_ret
  exact⟨rfl,(uh B).1,(uh B).2.1,z1e (uh A).2.2 (uh B).2.2⟩
end Go.Proofs.YtkbpocecbcaiiabGreatDoor
namespace Go.Proofs.YtkbpocecbcaiiabGreatDoor
def pathL (s:ByteArray):Nat->Nat->List (Nat×Nat)×Nat
 | 0,p=>([],p)
 | f+1,p=>if inB 97 112 (pk s p) then
   (((pk s p - 97,sgn (pk s (p+1))) :: (pathL s f (adv (sgn (pk s (p+1)) != 0) (p+1))).1),(pathL s f (adv (sgn (pk s (p+1)) != 0) (p+1))).2)
  else ([],p)
def z11 (s:ByteArray):Nat->Nat->List (Nat×Nat)×Nat×Bool
 | 0,p=>([],p,true)
 | f+1,p=>if inB 97 112 (pk s p) then
   if sgn (pk s (p+1))=0 then ([],p+1,false)
   else (((pk s p - 97,sgn (pk s (p+1))) :: (z11 s f (p+2)).1),(z11 s f (p+2)).2)
  else ([],p,true)
def capsL (s:ByteArray):Nat->Nat->List Nat×Nat
 | 0,p=>([],p)
 | f+1,p=>if inB 65 76 (pk s p) then (((pk s p - 65) :: (capsL s f (p+1)).1),(capsL s f (p+1)).2) else ([],p)
end Go.Proofs.YtkbpocecbcaiiabGreatDoor
namespace Go.Proofs.YtkbpocecbcaiiabGreatDoor
open Go.RowKit
theorem Tryz.infoInt:(Tryz.prog.info? 3).map (fun i=>(i.zero,i.size,i.bytes))=some (some (.int .i64 0),1,8):=by kernel_rfl
theorem set_take (l:List Nat) (t n k:Nat) (h:k < l.length):(l.set t n).take (k+1)=(l.set t n).take k++[if k=t then n else l[k]]:=by
 rw[List.take_succ_eq_append_getElem (by simpa using h)];by_cases hk:k=t
 ·subst hk; simp
 ·rw[if_neg hk,List.getElem_set_ne (Ne.symm hk)]
set_option maxHeartbeats 400000 in
theorem with_any (v:Value) (l:List Nat) (t n:Nat) (w:World) (h:Ints w v l) (hl:l.length<=1000) :
  Calls Tryz.prog 143 #[v,.int .i64 t,.int .i64 n] w fun e w'=>∃v',e=.returned v'/\Ints w' v' (l.set t n)/\Below w.heap.size w w':=by
 obtain⟨ao,cap,rfl,h1,h2,h3⟩:=SlAt.open h;clear h;unfold maxLen at h2;obtain⟨i0,hi,hz0,hz1,hz2⟩:=info_parts Tryz.infoInt;go_enter Tryz.func143,Tryz.ntmps143
 go_wp2
 go_loopw [7,8] (fun r i wr=>∃k:Nat,k<=l.length/\i=.int .i64 k/\wr.ownsRow w.heap.size 3 1 r k (intsV ((l.set t n).take k)) ∧
   Below w.heap.size w wr) (fun _ i _=>l.length - (intOf i).toNat)
 case atStart=>exact⟨0,Nat.zero_le _,rfl,World.ownsRow_nil _ _ _ _,Below.refl _ _⟩
 case round=>
  obtain⟨k,hk,rfl,hown,hb⟩:=hrel;have hsz:=hb.size;obtain⟨p,hp⟩:∃p,p=(l.set t n).take k:=⟨_,rfl⟩
  rw[<-hp] at hown;have HP:=zh hp;clear hp;by_cases hlt:k < l.length
  ·obtain⟨g,off,hao,hg,cs,-,hC,hc⟩:=h3 k hlt
   subst hao;unfold CInt at hC;subst hC;have hc0:=hc 0 (by omega);rw[<-hb.cell (p:=⟨g,_,none⟩) hg] at hc0;have HS:=zh (set_take l t n k hlt);clear hc h3;simp at hc0;have HB:=zh hb;clear hb;by_cases hkt:k=t
   ·subst hkt
    go_wp2_with (at_builtin; refine wpList_append_own _ rfl _ _ 49 rfl w.heap.size 3 i0 (.int .i64 0) 1 8 Tryz.underlying49 hi hz0 hz1 hz2 rfl (by decide) _ _ _ rfl (hown.alloc _) ⟨wr.heap.size,0,none⟩ 1 1 [.int .i64 n] rfl rfl (z0q _ _ _) (z0a rfl) (by unfold maxLen; omega) (by omega) (by simp; omega) ?_; intro v' w1 hown' hgrow _)
    have hb':=z0p (uh HB) (by omega) hown hgrow;clear hgrow hown;go_wp2
    exact⟨⟨k+1,by omega,by go_num,by rw[uh HS,if_pos rfl,<-uh HP,z0x]; exact hown',hb'⟩,by simp[intOf]; omega⟩
   ·have hkt':((k:Int)==(t:Int))=false:=by simp; omega
    go_wp2_with (at_builtin; refine wpList_append_own _ rfl _ _ 49 rfl w.heap.size 3 i0 (.int .i64 0) 1 8 Tryz.underlying49 hi hz0 hz1 hz2 rfl (by decide) _ _ _ rfl (hown.alloc _) ⟨wr.heap.size,0,none⟩ 1 1 [.int .i64 (l[k]:Nat)] rfl rfl (z0q _ _ _) (z0a rfl) (by unfold maxLen; omega) (by omega) (by simp; omega) ?_; intro v' w1 hown' hgrow _)
    have hb':=z0p (uh HB) (by omega) hown hgrow;clear hgrow hown;go_wp2
    exact⟨⟨k+1,by omega,by go_num,by rw[uh HS,if_neg hkt,<-uh HP,z0x]; exact hown',hb'⟩,by simp[intOf]; omega⟩
  ·have hn:k=l.length:=by omega
   subst hn;have hfin:=zh (Ints.ofOwn hown (by rw[uh HP]; simp));rw[uh HP,List.take_of_length_le (by simp)] at hfin;clear h3 hown HP;go_wp2
   go_ret
   exact⟨u7,rfl,uh hfin,hb⟩
def z30 (c:Int):Bool:=decide (97<=c)&&decide (c<=112)
def signB (c:Int):Bool:=(c==43)||(c==45)
def z50 (c:Int):Bool:=decide (65<=c)&&decide (c<=76)
set_option maxHeartbeats 400000 in
theorem z4b (c:Int) (w:World) :
  Calls Tryz.prog 166 #[.int .u8 c] w fun e w'=>e=.returned (.bool (z30 c))/\w'=w:=by
 go_enter Tryz.func166,Tryz.ntmps166
 go_wp2
 all_goals
  go_ret
  exact⟨by first | (simp[z30, *]; done) | (simp[z30, *]; omega),rfl⟩
set_option maxHeartbeats 400000 in
theorem capital_any (c:Int) (w:World) :
  Calls Tryz.prog 168 #[.int .u8 c] w fun e w'=>e=.returned (.bool (z50 c))/\w'=w:=by
 go_enter Tryz.func168,Tryz.ntmps168
 go_wp2
 all_goals
  go_ret
  exact⟨by first | (simp[z50, *]; done) | (simp[z50, *]; omega),rfl⟩
set_option maxHeartbeats 400000 in
theorem sign_any (c:Int) (w:World) :
  Calls Tryz.prog 167 #[.int .u8 c] w fun e w'=>e=.returned (.bool (signB c))/\w'=w:=by
 go_enter Tryz.func167,Tryz.ntmps167
 go_wp2
 all_goals
  go_ret
  exact⟨by simp[signB, *],rfl⟩
def firstS (a c:Int):Int:=
 if a < 3/\49<=c/\c<=57 then a+1
 else if a=3/\c=47 then 4
 else if (a=4\/a=5)/\(c=46\/c=121) then 5
 else if a=5/\c=47 then 6 else -1
def z2t (a c:Int):Int:=
 if a=6/\z30 c=true then 7
 else if a=7/\c=62 then 8
 else if (a=8\/a=9\/a=10)/\z30 c=true then 9
 else if a=9/\signB c=true then 10
 else if (a=9\/a=10)/\c=33 then 11
 else if (a=11\/a=13)/\z30 c=true then 12
 else if a=12/\signB c=true then 13
 else if (a=9\/a=10\/a=13)/\c=44 then 6
 else if (a=9\/a=10\/a=13)/\c=47 then 14 else -1
def lastS (a c:Int):Int:=
 if a=14/\z30 c=true then 15
 else if (a=15\/a=16)/\z50 c=true then 16
 else if a=16/\c=44 then 14 else -1
set_option maxHeartbeats 1000000 in
theorem first_any (a c:Int) (w:World) (h0:0<=a) :
  Calls Tryz.prog 133 #[.int .i64 a,.int .u8 c] w fun e w'=>e=.returned (.int .i64 (firstS a c))/\w'=w:=by
 go_enter Tryz.func133,Tryz.ntmps133
 go_wp2
 all_goals
  go_ret
  refine⟨z2i ?_,rfl⟩;unfold firstS
  (repeat' split) <;> first | rfl | omega | (simp_all; done) | (simp_all; omega)
set_option maxHeartbeats 1000000 in
theorem last_any (a c:Int) (w:World) :
  Calls Tryz.prog 135 #[.int .i64 a,.int .u8 c] w fun e w'=>e=.returned (.int .i64 (lastS a c))/\w'=w:=by
 go_enter Tryz.func135,Tryz.ntmps135
 cases hl:z30 c <;> cases hk:z50 c
 all_goals
  go_wp2_with (first
   | (go_at_call 166; refine(z4b _ _).mono ?_; rintro e w' ⟨rfl,rfl⟩)
   | (go_at_call 168; refine(capital_any _ _).mono ?_; rintro e w' ⟨rfl,rfl⟩))
 all_goals
  go_ret
  refine⟨z2i ?_,rfl⟩;unfold lastS
  (repeat' split) <;> first | rfl | omega | (simp_all; done) | (simp_all; omega)
set_option maxHeartbeats 4000000 in
theorem middle_any (a c:Int) (w:World) (h0:6<=a) (h1:a<=13) :
  Calls Tryz.prog 134 #[.int .i64 a,.int .u8 c] w fun e w'=>e=.returned (.int .i64 (z2t a c))/\w'=w:=by
 obtain rfl | rfl | rfl | rfl | rfl | rfl | rfl | rfl:a=6\/a=7\/a=8\/a=9\/a=10\/a=11\/a=12\/a=13:=by omega
 all_goals
  clear h0 h1;go_enter Tryz.func134,Tryz.ntmps134
  cases hl:z30 c <;> cases hk:signB c
 all_goals
  go_wp2_with (first
   | (go_at_call 166; refine(z4b _ _).mono ?_; rintro e w' ⟨rfl,rfl⟩)
   | (go_at_call 167; refine(sign_any _ _).mono ?_; rintro e w' ⟨rfl,rfl⟩))
 all_goals
  go_ret
  refine⟨z2i ?_,rfl⟩
  first | (simp[z2t,hl,hk]; done) | (simp_all [z2t]; done)
def stepS (a c:Int):Int:=if a < 6 then firstS a c else if a < 14 then z2t a c else lastS a c
def z1m:Int->Nat->List UInt8->Int
 | a,n,[]=>if a=16 then -1 else n
 | a,n,c :: l=>if stepS a c.toNat=-1 then n else z1m (stepS a c.toNat) (n+1) l
theorem stepS_bd (a c:Int) (h0:0<=a) (h1:a<=16):stepS a c=-1\/(0<=stepS a c/\stepS a c<=16):=by
 unfold stepS firstS z2t lastS
 (repeat' split) <;> omega
theorem z5f (s:ByteArray) (k:Nat) (h:k < s.size):s.data.toList.drop k=s[k] :: s.data.toList.drop (k+1):=by
 rw[List.drop_eq_getElem_cons (by simpa using h)]; rfl
theorem placeS_hit (s:ByteArray) (a:Int) (k:Nat) (h:k < s.size) (hs:stepS a s[k].toNat=-1):z1m a k (s.data.toList.drop k)=k:=by
 rw[z5f s k h]; simp[z1m,hs]
theorem placeS_go (s:ByteArray) (a:Int) (k:Nat) (h:k < s.size) (hs:stepS a s[k].toNat≠-1) :
  z1m a k (s.data.toList.drop k)=z1m (stepS a s[k].toNat) (k+1) (s.data.toList.drop (k+1)):=by
 rw[z5f s k h]; simp[z1m,hs]
theorem place_next (s:ByteArray) (a:Int) (k:Nat) (h:k < s.size) (h0:0<=a) (h1:a<=16) (x:Int) (hx:stepS a s[k].toNat=x) :
  (x=-1\/(0<=x/\x<=16))/\(x=-1->z1m a k (s.data.toList.drop k)=k) ∧
  (x≠-1->z1m a k (s.data.toList.drop k)=z1m x (k+1) (s.data.toList.drop (k+1))):=by
 subst hx;exact⟨stepS_bd a _ h0 h1,placeS_hit s a k h,placeS_go s a k h⟩
theorem placeS_end (s:ByteArray) (a:Int) (k:Nat) (h:¬k < s.size):z1m a k (s.data.toList.drop k)=if a=16 then (-1:Int) else (k:Int):=by
 rw[List.drop_of_length_le (by simp; omega)]; simp[z1m]
set_option maxHeartbeats 1000000 in
theorem place_any (s:ByteArray) (w:World) (hs:s.size<=256) :
  Calls Tryz.prog 93 #[.string s] w fun e w'=>e=.returned (.int .i64 (z1m 0 0 s.data.toList))/\w'=w:=by
 go_enter Tryz.func93,Tryz.ntmps93
 go_wp2
 go_loop [3,4] (fun t i=>∃(k:Nat) (a:Int),k<=s.size/\0<=a/\a<=16/\i=.int .i64 k/\t=.int .i64 a/\z1m 0 0 s.data.toList=z1m a k (s.data.toList.drop k)) (fun _ i=>s.size - (intOf i).toNat)
 case atStart=>exact⟨0,0,Nat.zero_le _,by omega,by omega,rfl,rfl,by simp⟩
 case round=>
  obtain⟨k,a,hk,ha0,ha1,rfl,rfl,hp⟩:=hrel;have HP:Hid (z1m 0 0 s.data.toList=z1m a k (s.data.toList.drop k)):=hp;clear hp;by_cases hlt:k < s.size
  ·have hn:=place_next s a k hlt ha0 ha1
   by_cases c6:a < 6
   ·have HH:=zh (hn (firstS a s[k].toNat) (by simp[stepS,c6]))
    clear hn;go_wp2_with (go_at_call 133; refine(first_any _ _ _ (by omega)).mono ?_; rintro e w' ⟨rfl,rfl⟩)
    ·go_ret
     exact⟨z2i (by rw[HP.out]; exact((uh HH).2.1 (by simp_all)).symm),rfl⟩
    ·have hne:firstS a s[k].toNat≠-1:=by simp_all
     have hb:=(uh HH).1.resolve_left hne;exact⟨⟨k+1,_,by omega,hb.1,hb.2,by go_num,rfl,HP.out.trans ((uh HH).2.2 hne)⟩,by simp[intOf]; omega⟩
   by_cases c14:a < 14
   ·have HH:=zh (hn (z2t a s[k].toNat) (by simp[stepS,c6,c14]))
    clear hn;go_wp2_with (go_at_call 134; refine(middle_any _ _ _ (by omega) (by omega)).mono ?_; rintro e w' ⟨rfl,rfl⟩)
    ·go_ret
     exact⟨z2i (by rw[HP.out]; exact((uh HH).2.1 (by simp_all)).symm),rfl⟩
    ·have hne:z2t a s[k].toNat≠-1:=by simp_all
     have hb:=(uh HH).1.resolve_left hne;exact⟨⟨k+1,_,by omega,hb.1,hb.2,by go_num,rfl,HP.out.trans ((uh HH).2.2 hne)⟩,by simp[intOf]; omega⟩
   ·have HH:=zh (hn (lastS a s[k].toNat) (by simp[stepS,c6,c14]))
    clear hn;go_wp2_with (go_at_call 135; refine(last_any _ _ _).mono ?_; rintro e w' ⟨rfl,rfl⟩)
    ·go_ret
     exact⟨z2i (by rw[HP.out]; exact((uh HH).2.1 (by simp_all)).symm),rfl⟩
    ·have hne:lastS a s[k].toNat≠-1:=by simp_all
     have hb:=(uh HH).1.resolve_left hne;exact⟨⟨k+1,_,by omega,hb.1,hb.2,by go_num,rfl,HP.out.trans ((uh HH).2.2 hne)⟩,by simp[intOf]; omega⟩
  ·have he:=zh (placeS_end s a k hlt)
   have hks:k=s.size:=by omega
   subst hks;by_cases h16:a=16
   ·subst h16
    go_wp2
    go_ret
    exact⟨z2i (by rw[HP.out,uh he]; rfl),rfl⟩
   ·go_wp2
    go_ret
    exact⟨z2i (by rw[HP.out,uh he,if_neg h16]),rfl⟩
theorem Tryz.infoStr:(Tryz.prog.info? 9).map (fun i=>(i.zero,i.size,i.bytes))=some (some (.string ByteArray.empty),1,16):=by kernel_rfl
theorem z3d (s:ByteArray) (f k:Nat):s.extract f k=⟨((s.data.toList.take k).drop f).toArray⟩:=by
 apply ByteArray.ext;apply Array.ext';simp[ByteArray.data_extract,List.extract_eq_take_drop,List.drop_take]
theorem z5g (s:ByteArray) (f k:Nat) (hk:k < s.size) (hf:f<=k):(s.data.toList.take (k+1)).drop f=(s.data.toList.take k).drop f++[s[k]]:=by
 rw[List.take_succ_eq_append_getElem (by simpa using hk),List.drop_append_of_le_length (by simp; omega)]; rfl
set_option maxHeartbeats 400000 in
theorem split_any (s:ByteArray) (c:UInt8) (w:World) (hs:s.size<=1000) :
  Calls Tryz.prog 136 #[.string s,.int .u8 c.toNat] w fun e w'=>∃v',e=.returned v'/\Strs w' v' (z0v c [] s.data.toList)/\Below w.heap.size w w':=by
 obtain⟨i0,hi0⟩:=info_parts Tryz.infoStr;have HI:=zh hi0;clear hi0;generalize hzz:z0v c [] s.data.toList=z;have HZ:=zh hzz;clear hzz;go_enter Tryz.func136,Tryz.ntmps136
 go_wp2
 go_loopw [5,6,7] (fun r fr i wr=>∃k f:Nat,∃g:List (List UInt8),k<=s.size/\f<=k/\i=.int .i64 k/\fr=.int .i64 f/\g.length<=f/\wr.ownsRow w.heap.size 9 1 r g.length (strsV g) ∧
   z=g++z0v c ((s.data.toList.take k).drop f) (s.data.toList.drop k)/\Below w.heap.size w wr) (fun _ _ i _=>s.size - (intOf i).toNat)
 case atStart=>exact⟨0,0,[],Nat.zero_le _,Nat.le_refl _,rfl,rfl,Nat.le_refl _,World.ownsRow_nil _ _ _ _,by simpa using (uh HZ).symm,Below.refl _ _⟩
 case round=>
  obtain⟨k,f,g,hk,hf,rfl,rfl,hg,hown,hq,hb⟩:=hrel;have HQ:=zh hq;have HB:=zh hb;have hsz:=hb.size;clear hq hb;by_cases hlt:k < s.size
  ·have HD:=zh (z5f s k hlt)
   by_cases hc:s[k]=c
   ·have hc':((s[k].toNat:Int)==(c.toNat:Int))=true:=by rw[hc]; simp
    have HC:=zh hc;clear hc;go_wp2_with (at_builtin; refine wpList_append_own _ rfl _ _ 22 rfl w.heap.size 9 i0 (.string ByteArray.empty) 1 16 Tryz.underlying22 (uh HI).1 (uh HI).2.1 (uh HI).2.2.1 (uh HI).2.2.2 rfl (by decide) _ _ _ rfl (hown.alloc _) ⟨wr.heap.size,0,none⟩ 1 1 [.string (s.extract f k)] rfl rfl (z0q _ _ _) (z0a rfl) (by unfold maxLen; omega) (by omega) (by simp; omega) ?_; intro v' w1 hown' hgrow _)
    have hb':=z0p (uh HB) (by omega) hown hgrow;clear hgrow hown;go_wp2
    refine⟨⟨k+1,k+1,g++[(s.data.toList.take k).drop f],by omega,by omega,by go_num,by go_num,by simp; omega,?_,?_,hb'⟩,by simp[intOf]; omega⟩
    ·rw[z5d,strV,<-z3d]; simpa using hown'
    ·rw[uh HQ,uh HD]; simp[z0v,uh HC]
   ·have hc':((s[k].toNat:Int)==(c.toNat:Int))=false:=by
     simp only[beq_eq_false_iff_ne,ne_eq];intro h; exact hc (UInt8.toNat_inj.1 (by omega))
    have HC:=zh hc;clear hc;go_wp2
    refine⟨⟨k+1,f,g,by omega,by omega,by go_num,by go_num,hg,hown,?_,uh HB⟩,by simp[intOf]; omega⟩;rw[uh HQ,uh HD,z5g s f k hlt hf]; simp[z0v,uh HC]
  ·obtain rfl:k=s.size:=by omega
   go_wp2_with (at_builtin; refine wpList_append_own _ rfl _ _ 22 rfl w.heap.size 9 i0 (.string ByteArray.empty) 1 16 Tryz.underlying22 (uh HI).1 (uh HI).2.1 (uh HI).2.2.1 (uh HI).2.2.2 rfl (by decide) _ _ _ rfl (hown.alloc _) ⟨wr.heap.size,0,none⟩ 1 1 [.string (s.extract f s.size)] rfl rfl (z0q _ _ _) (z0a rfl) (by unfold maxLen; omega) (by omega) (by simp; omega) ?_; intro v' w1 hown' hgrow _)
   have hb':=z0p (uh HB) (by omega) hown hgrow;have hz:=zh (show z=g++[(s.data.toList.take s.size).drop f] by
    have e:s.data.toList.drop s.size=[]:=List.drop_of_length_le (by simp);rw[uh HQ,e]; rfl)
   rw[z3d] at hown';have hfin:=zh (Strs.ofOwn (l:=g++[(s.data.toList.take s.size).drop f]) (by rw[z5d]; exact hown') (by simp));clear hgrow hown hown';go_wp2
   go_ret
   exact⟨v',rfl,by rw[uh hz]; exact uh hfin,hb'⟩
theorem Tryz.infoByte:(Tryz.prog.info? 5).map (fun i=>(i.zero,i.size,i.bytes))=some (some (.int .u8 0),1,1):=by kernel_rfl
theorem letter_isLet (x:UInt8):z30 x.toNat=isLet x:=by
 unfold z30 isLet
 congr 1 <;> rw[decide_eq_decide] <;> omega
theorem secs_step (acc:List (Nat×Nat)) (x:UInt8) (h:isLet x=false):secs (z1a acc x)=secs acc:=by
 unfold z1a secs;rw[if_neg (by simp[h])];apply List.ext_getElem?;intro i;simp only[List.getElem?_map,List.getElem?_set];split
 ·split
  ·subst_vars; simp[List.getD_eq_getElem?_getD]
   rename_i hl; rw[List.getElem?_eq_getElem hl]; try rfl
  ·subst_vars; rw[List.getElem?_eq_none (by omega)]; try rfl
 ·rfl
theorem signs_step (acc:List (Nat×Nat)) (x:UInt8) (h:isLet x=false):signs (z1a acc x)=(signs acc).set (acc.length - 1) x.toNat:=by
 unfold z1a signs;rw[if_neg (by simp[h]),List.map_set]
theorem len_step (acc:List (Nat×Nat)) (x:UInt8):(z1a acc x).length<=acc.length+1/\(isLet x=true->(z1a acc x).length=acc.length+1)/\(isLet x=false->(z1a acc x).length=acc.length):=by
 unfold z1a;cases h:isLet x <;> simp
theorem secs_len (p:List (Nat×Nat)):(secs p).length=p.length:=by simp[secs]
theorem signs_len (p:List (Nat×Nat)):(signs p).length=p.length:=by simp[signs]
theorem own_ne {w:World} {b b':Nat} {e e':TypeId} {s s':Nat} {v v':Value} {n n':Nat} {xs xs':List Value} (h:w.ownsRow b e s v n xs) (h':w.ownsRow b' e' s' v' n' xs') (he:e≠e'):v.ownBlock=none\/v.ownBlock≠v'.ownBlock:=by
 rcases h.2 with ⟨rfl,-⟩ | ⟨g,cap,cur,rfl,-,hg,-⟩
 ·exact .inl rfl
 ·right
  rcases h'.2 with ⟨rfl,-⟩ | ⟨g',cap',cur',rfl,-,hg',-⟩
  ·simp[Value.ownBlock]
  ·simp only[Value.ownBlock,ne_eq,Option.some.injEq]
   intro hgg; subst hgg;rw[hg] at hg';simp at hg';exact he hg'.2
set_option maxHeartbeats 1000000 in
theorem marks_lo (s:ByteArray) (w:World) (hs:s.size<=1000) :
  Calls Tryz.prog 169 #[.string s] w fun e w'=>∃vp vs,e=.returned (.tuple #[vp,vs])/\Ints w' vp (secs (marksF s.data.toList))/\Byts w' vs (signs (marksF s.data.toList))/\Below w.heap.size w w'/\Lo w.heap.size vp/\Lo w.heap.size vs:=by
 obtain⟨i0,hi0⟩:=info_parts Tryz.infoInt;have HI:=zh hi0;obtain⟨i1,hi1⟩:=info_parts Tryz.infoByte;have HJ:=zh hi1;clear hi0 hi1;generalize hzz:marksF s.data.toList=z;have HZ:=zh hzz;clear hzz;go_enter Tryz.func169,Tryz.ntmps169
 go_wp2
 go_loopw [4,5,6] (fun l m i wr=>∃k:Nat,∃acc:List (Nat×Nat),k<=s.size/\i=.int .i64 k/\acc.length<=k/\wr.ownsRow w.heap.size 3 1 l acc.length (intsV (secs acc)) ∧
   wr.ownsRow w.heap.size 5 1 m acc.length (bytsV (signs acc))/\z=(s.data.toList.drop k).foldl z1a acc/\Below w.heap.size w wr) (fun _ _ i _=>s.size - (intOf i).toNat)
 case atStart=>exact⟨0,[],Nat.zero_le _,rfl,Nat.le_refl _,World.ownsRow_nil _ _ _ _,World.ownsRow_nil _ _ _ _,(uh HZ).symm,Below.refl _ _⟩
 case round=>
  obtain⟨k,acc,hk,rfl,hac,hown,howm,hq,hb⟩:=hrel;have HQ:=zh hq;have HB:=zh hb;have hsz:=hb.size;clear hq hb;by_cases hlt:k < s.size
  ·have HD:=zh (z5f s k hlt)
   obtain⟨c,hce⟩:∃c,s[k].toNat=c:=⟨_,rfl⟩
   have hc256:c < 256:=by rw[<-hce]; exact s[k].toNat_lt
   have HL:=zh (letter_isLet s[k]);rw[hce] at HL;have HCE:=zh hce;have hne:=own_ne howm hown (by decide);have HNE:=zh hne;clear hne;cases hl:isLet s[k] with
   | true=>
    have HLT:=zh hl;rw[hl] at HL;have hcl:97<=c/\c<=112:=by
     have:=uh HL;unfold z30 at this;simp at this; omega
    clear hl;have hw1:IntKind.u8.wrap ((c:Int) - 97)=(c:Int) - 97:=Go.IntWalk.u8_in _ (by omega);have tok1:True:=trivial;go_wp2_with (first
     | (go_at_call 166; refine(z4b _ _).mono ?_; rw[uh HL]; rintro e w' ⟨rfl,hw⟩; have hw:=hw.symm; subst hw)
     | (at_builtin; have _t:=tok1; refine wpList_append_own _ rfl _ _ 49 rfl w.heap.size 3 i0 (.int .i64 0) 1 8 Tryz.underlying49 (uh HI).1 (uh HI).2.1 (uh HI).2.2.1 (uh HI).2.2.2 rfl (by decide) _ _ _ rfl (hown.alloc _) ⟨wr.heap.size,0,none⟩ 1 1 [.int .i64 ((c:Int) - 97)] rfl rfl (z0q _ _ _) (z0a rfl) (by unfold maxLen; omega) (by omega) (by simp; omega) ?_; intro v1 w1 hown1 hgrow1 _; clear tok1; have howm1:=(howm.alloc _).kept hgrow1 (uh HNE); have hb1:=z0p (uh HB) hsz hown hgrow1; have hsz1:=hb1.size; have HB1:=zh hb1; clear hb1)
     | (at_builtin; refine wpList_append_own _ rfl _ _ 74 rfl w.heap.size 5 i1 (.int .u8 0) 1 1 Tryz.underlying74 (uh HJ).1 (uh HJ).2.1 (uh HJ).2.2.1 (uh HJ).2.2.2 rfl (by decide) _ _ _ rfl (howm1.alloc _) ⟨w1.heap.size,0,none⟩ 1 1 [.int .u8 0] rfl rfl (z0q _ _ _) (z0a rfl) (by unfold maxLen; omega) (by omega) (by simp; omega) ?_; intro v2 w2 howm2 hgrow2 _))
    have hown2:=(hown1.alloc _).kept hgrow2 (own_ne hown1 howm1 (by decide));have hb2:=z0p (uh HB1) hsz1 howm1 hgrow2;have hcc:(c:Int) - 97=((c - 97:Nat):Int):=by omega
    have hst:z1a acc s[k]=acc++[(c - 97,0)]:=by rw[z1a,uh HLT,if_pos rfl,uh HCE]
    rw[hcc,<-z0x] at hown2;rw[show (Value.int .u8 0)=Value.int .u8 ((0:Nat):Int) from rfl,<-z2g] at howm2;have hQ2:z=(s.data.toList.drop (k+1)).foldl z1a (acc++[(c - 97,0)]):=by rw[uh HQ,uh HD,List.foldl_cons,hst]
    clear hgrow1 hgrow2 hown1 howm1 hown howm;go_wp2
    exact⟨⟨k+1,acc++[(c - 97,0)],by omega,by go_num,by simp; omega,by simpa [secs] using hown2,by simpa [signs] using howm2,hQ2,hb2⟩,by simp[intOf]; omega⟩
   | false=>
    have HLT:=zh hl;rw[hl] at HL;clear hl;have hst:=zh (show z=(s.data.toList.drop (k+1)).foldl z1a (z1a acc s[k]) by rw[uh HQ,uh HD,List.foldl_cons]);have hlen:=zh ((len_step acc s[k]).2.2 (uh HLT));have hse:=zh (secs_step acc s[k] (uh HLT));have hsi:=zh (signs_step acc s[k] (uh HLT));by_cases h0:acc.length=0
    ·have hm:u5=.slice none 0 0\/∃a cap,u5=.slice (some a) 0 cap:=by
      rcases howm.2 with ⟨h,-⟩ | ⟨g,cap,cur,h,-⟩
      ·exact .inl h
      ·exact .inr ⟨_,_,by rw[h,h0]⟩
     have HOW:=zh (And.intro hown howm);clear hown howm;rcases hm with rfl | ⟨a,cap,rfl⟩
     all_goals
      go_wp2_with (go_at_call 166; refine(z4b _ _).mono ?_; rw[uh HL]; rintro e w' ⟨rfl,hw⟩; have hw:=hw.symm; subst hw)
      exact⟨⟨k+1,z1a acc s[k],by omega,by go_num,by rw[uh hlen]; omega,by rw[uh hlen,uh hse]; exact(uh HOW).1,by rw[uh hlen,uh hsi,List.set_eq_of_length_le (by rw[signs_len]; omega)]; exact(uh HOW).2,uh hst,uh HB⟩,by simp[intOf]; omega⟩
    ·obtain⟨g,cap,hm⟩:∃g cap,u5=.slice (some ⟨g,0,none⟩) acc.length cap:=by
      rcases howm.2 with ⟨-,h⟩ | ⟨g,cap,cur,h,-⟩
      ·exact absurd h h0
      ·exact⟨_,_,h⟩
     subst hm;obtain⟨n,hn⟩:∃n,acc.length=n+1:=⟨acc.length - 1,by omega⟩
     have hfz:=howm.frozenAt n;have hcl:=howm.cellAt n (by omega);have hst2:=howm.stored n (.int .u8 c);have hown2:=hown.kept hst2.2 (own_ne hown howm (by decide));have HOW:=zh (And.intro hown2 hst2.1);have hbs:=zh ((uh HB).setCell (p:=⟨g,n,none⟩) ((howm.lt g rfl).1) (.int .u8 c));have hcl':wr.cell? ⟨g,n,none⟩=some (.int .u8 ((signs acc)[n]'(by rw[signs_len]; omega):Nat)):=by
      rw[hcl,bytsV,List.getElem?_map,List.getElem?_eq_getElem (by rw[signs_len]; omega)]; rfl
     have hpos:(0:Int) < (n:Int)+1:=by omega
     have hacn:n+1<=k:=by omega
     clear hown howm hcl hst2 hown2 h0 hac;generalize (signs acc)[n]'_=old at hcl';have HN:=zh hn;go_wp2_with (go_at_call 166; refine(z4b _ _).mono ?_; rw[uh HL]; rintro e w' ⟨rfl,hw⟩; have hw:=hw.symm; subst hw)
     refine⟨⟨k+1,z1a acc s[k],by omega,by go_num,by rw[uh hlen,uh HN]; omega,by rw[uh hlen,uh hse]; exact(uh HOW).1,?_,uh hst,uh hbs⟩,by simp[intOf]; omega⟩;have hm2:=(uh HOW).2;rw[uh hlen,uh hsi,uh HN,Nat.add_sub_cancel,uh HCE,bytsV,List.map_set];rw[uh HN] at hm2;exact hm2
  ·obtain rfl:k=s.size:=by omega
   have hz:=zh (show z=acc by
    have e:s.data.toList.drop s.size=[]:=List.drop_of_length_le (by simp);rw[uh HQ,e]; rfl)
   have f1:=zh (Ints.ofOwn hown (secs_len acc).symm);have f2:=zh (Byts.ofOwn howm (signs_len acc).symm);have f3:=zh (Lo.of hown);have f4:=zh (Lo.of howm);clear hown howm;go_wp2
   go_ret2
   exact⟨u4,u5,rfl,by rw[uh hz]; exact uh f1,by rw[uh hz]; exact uh f2,uh HB,uh f3,uh f4⟩
end Go.Proofs.YtkbpocecbcaiiabGreatDoor
