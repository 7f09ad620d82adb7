import Derived.Test.YtkbpocecbcaiiabGreatDoorO51
namespace Go.Proofs.YtkbpocecbcaiiabGreatDoor
open Go.RowKit
structure Wd where
 done:List Nat
 head:List Int
 tail:List Int
 gone:List Bool
 lie:List Nat
 aim:List Nat
 left:List Nat
def Wd.rt (W:Wd) (L:Lay) (t:Nat):Nat:=(L.tn t).jny.getD (W.done.getD t 0) 0
def Wd.place (W:Wd) (L:Lay) (t:Nat) (i:Int):Nat:=if i < 0 then (L.rt (W.rt L t)).foot else (secs (L.rt (W.rt L t)).path).getD i.toNat 0
def Wd.stand (W:Wd) (L:Lay) (t:Nat):Nat:=if W.done.getD t 0=0 then (L.tn t).start else L.endOf ((L.tn t).jny.getD (W.done.getD t 0 - 1) 0)
def Wd.onB (W:Wd) (L:Lay) (t s:Nat):Bool:=
 if W.gone.getD t false then false
 else if W.head.getD t 0 < 0 then W.stand L t==s
 else (List.range (W.head.getD t 0 - W.tail.getD t 0+1).toNat).any (fun k=>W.place L t (W.tail.getD t 0+k)==s)
def Wd.takenB (W:Wd) (L:Lay) (s:Nat):Bool:=(List.range L.tns.length).any (fun t=>W.onB L t s)
structure WB where
 d:Nat
 h:Nat
 t:Nat
 g:Nat
 l:Nat
 o:Nat
 f:Nat
 dc:Nat
 hc:Nat
 tc:Nat
 gc:Nat
 lc:Nat
 oc:Nat
 fc:Nat
def WB.bs (B:WB):List Nat:=[B.d,B.h,B.t,B.g,B.l,B.o,B.f]
def intsZ (l:List Int):List Value:=l.map (fun x=>.int .i64 x)
theorem intsZ_set (l:List Int) (i:Nat) (x:Int):(intsZ l).set i (.int .i64 x)=intsZ (l.set i x):=by simp[intsZ,List.map_set]
def wobj (gp:Nat) (B:WB) (nt ns:Nat):Obj:=.cells #[.pointer (some ⟨gp,0,none⟩),.slice (some ⟨B.d,0,none⟩) nt B.dc,.slice (some ⟨B.h,0,none⟩) nt B.hc,.slice (some ⟨B.t,0,none⟩) nt B.tc,.slice (some ⟨B.g,0,none⟩) nt B.gc,
 .slice (some ⟨B.l,0,none⟩) ns B.lc,.slice (some ⟨B.o,0,none⟩) ns B.oc,.slice (some ⟨B.f,0,none⟩) ns B.fc] 103 (0,0)
structure WAt (w:World) (g gp nt ns:Nat) (B:WB) (W:Wd):Prop where
 obj:w.heap[g]?=some (wobj gp B nt ns)
 d:w.ownsRow 0 3 1 (.slice (some ⟨B.d,0,none⟩) nt B.dc) nt (intsV W.done)
 h:w.ownsRow 0 3 1 (.slice (some ⟨B.h,0,none⟩) nt B.hc) nt (intsZ W.head)
 t:w.ownsRow 0 3 1 (.slice (some ⟨B.t,0,none⟩) nt B.tc) nt (intsZ W.tail)
 gn:w.ownsRow 0 4 1 (.slice (some ⟨B.g,0,none⟩) nt B.gc) nt (z17 W.gone)
 l:w.ownsRow 0 5 1 (.slice (some ⟨B.l,0,none⟩) ns B.lc) ns (bytsV W.lie)
 o:w.ownsRow 0 5 1 (.slice (some ⟨B.o,0,none⟩) ns B.oc) ns (bytsV W.aim)
 f:w.ownsRow 0 3 1 (.slice (some ⟨B.f,0,none⟩) ns B.fc) ns (intsV W.left)
 nd:(g :: B.bs).Nodup
theorem WAt.only {w w':World} {g gp nt ns:Nat} {B:WB} {W:Wd} {F:Nat->Prop} (h:WAt w g gp nt ns B W) (ho:Only F w w') (hn:∀b,b∈g :: B.bs->¬F b):WAt w' g gp nt ns B W:=by
 have hb:∀{x n c b:Nat},(Value.slice (some ⟨x,0,none⟩) n c).ownBlock=some b->x∈g :: B.bs->¬F b:=fun {x n c b} e hx=>by
  have e':x=b:=by simpa [Value.ownBlock] using e
  rw[<-e']; exact hn x hx
 refine⟨(ho.block g (z0g h.obj) (hn g (List.mem_cons_self ..))).trans h.obj,z35 h.d ho (fun b e=>hb e ?_),z35 h.h ho (fun b e=>hb e ?_),z35 h.t ho (fun b e=>hb e ?_),z35 h.gn ho (fun b e=>hb e ?_),z35 h.l ho (fun b e=>hb e ?_),z35 h.o ho (fun b e=>hb e ?_),z35 h.f ho (fun b e=>hb e ?_),h.nd⟩
 all_goals simp[WB.bs]
theorem WAt.below {w w':World} {g gp nt ns:Nat} {B:WB} {W:Wd} (h:WAt w g gp nt ns B W) (hb:Below w.heap.size w w'):WAt w' g gp nt ns B W:=h.only (F:=fun _=>False) (Only.of_below hb) (fun _ _ h=>h)
theorem WAt.cells {w:World} {g gp nt ns:Nat} {B:WB} {W:Wd} (h:WAt w g gp nt ns B W) :
  (w.cell? ⟨g,0,none⟩=some (.pointer (some ⟨gp,0,none⟩))/\w.cell? ⟨g,1,none⟩=some (.slice (some ⟨B.d,0,none⟩) nt B.dc)/\w.cell? ⟨g,2,none⟩=some (.slice (some ⟨B.h,0,none⟩) nt B.hc)/\w.cell? ⟨g,3,none⟩=some (.slice (some ⟨B.t,0,none⟩) nt B.tc) ∧
  w.cell? ⟨g,4,none⟩=some (.slice (some ⟨B.g,0,none⟩) nt B.gc)/\w.cell? ⟨g,5,none⟩=some (.slice (some ⟨B.l,0,none⟩) ns B.lc)/\w.cell? ⟨g,6,none⟩=some (.slice (some ⟨B.o,0,none⟩) ns B.oc)/\w.cell? ⟨g,7,none⟩=some (.slice (some ⟨B.f,0,none⟩) ns B.fc))/\g < w.heap.size:=
 ⟨⟨z07 h.obj 0,z07 h.obj 1,z07 h.obj 2,z07 h.obj 3,z07 h.obj 4,z07 h.obj 5,z07 h.obj 6,z07 h.obj 7⟩,z0g h.obj⟩
theorem z5b {w:World} {e:TypeId} {gb n c:Nat} {xs:List Value} (h:w.ownsRow 0 e 1 (.slice (some ⟨gb,0,none⟩) n c) n xs) {k:Nat} (hk:k < n) (u:Value) (hu:xs[k]?=some u):w.cell? ⟨gb,k,none⟩=some u/\w.frozen? ⟨gb,k,none⟩=false/\gb < w.heap.size:=by
 refine⟨?_,h.frozenAt k,(h.lt gb rfl).2⟩;rw[h.cellAt k (by omega)]; exact hu
theorem vget {α:Type} {l:List α} {k:Nat} (f:α->Value) (d:α) (hk:k < l.length):(l.map f)[k]?=some (f (l.getD k d)):=by
 rw[List.getElem?_map,List.getElem?_eq_getElem hk,z05 hk]; rfl
theorem WAt.lens {w:World} {g gp nt ns:Nat} {B:WB} {W:Wd} (h:WAt w g gp nt ns B W):W.done.length=nt/\W.head.length=nt/\W.tail.length=nt/\W.gone.length=nt/\W.lie.length=ns/\W.aim.length=ns/\W.left.length=ns:=by
 have a1:=h.d.1;have a2:=h.h.1;have a3:=h.t.1;have a4:=h.gn.1;have a5:=h.l.1;have a6:=h.o.1;have a7:=h.f.1;simp[intsV,intsZ,z17,bytsV] at a1 a2 a3 a4 a5 a6 a7;exact⟨a1,a2,a3,a4,a5,a6,a7⟩
theorem WAt.train {w:World} {g gp nt ns:Nat} {B:WB} {W:Wd} (h:WAt w g gp nt ns B W) {t:Nat} (ht:t < nt) :
  (w.cell? ⟨B.d,t,none⟩=some (.int .i64 (W.done.getD t 0:Nat))/\w.frozen? ⟨B.d,t,none⟩=false/\B.d < w.heap.size)/\(w.cell? ⟨B.h,t,none⟩=some (.int .i64 (W.head.getD t 0))/\w.frozen? ⟨B.h,t,none⟩=false/\B.h < w.heap.size) ∧
  (w.cell? ⟨B.t,t,none⟩=some (.int .i64 (W.tail.getD t 0))/\w.frozen? ⟨B.t,t,none⟩=false/\B.t < w.heap.size)/\(w.cell? ⟨B.g,t,none⟩=some (.bool (W.gone.getD t false))/\w.frozen? ⟨B.g,t,none⟩=false/\B.g < w.heap.size):=by
 obtain⟨l1,l2,l3,l4,-⟩:=h.lens;exact⟨z5b h.d ht _ (vget _ 0 (by omega)),z5b h.h ht _ (vget _ 0 (by omega)),z5b h.t ht _ (vget _ 0 (by omega)),z5b h.gn ht _ (vget _ false (by omega))⟩
theorem WAt.switch {w:World} {g gp nt ns:Nat} {B:WB} {W:Wd} (h:WAt w g gp nt ns B W) {s:Nat} (hs:s < ns) :
  (w.cell? ⟨B.l,s,none⟩=some (.int .u8 (W.lie.getD s 0:Nat))/\w.frozen? ⟨B.l,s,none⟩=false/\B.l < w.heap.size)/\(w.cell? ⟨B.o,s,none⟩=some (.int .u8 (W.aim.getD s 0:Nat))/\w.frozen? ⟨B.o,s,none⟩=false/\B.o < w.heap.size) ∧
  (w.cell? ⟨B.f,s,none⟩=some (.int .i64 (W.left.getD s 0:Nat))/\w.frozen? ⟨B.f,s,none⟩=false/\B.f < w.heap.size):=by
 obtain⟨-,-,-,-,l5,l6,l7⟩:=h.lens;exact⟨z5b h.l hs _ (vget _ 0 (by omega)),z5b h.o hs _ (vget _ 0 (by omega)),z5b h.f hs _ (vget _ 0 (by omega))⟩
theorem z5c {w:World} {e:TypeId} {gb n c:Nat} {xs:List Value} (h:w.ownsRow 0 e 1 (.slice (some ⟨gb,0,none⟩) n c) n xs) (k:Nat) (u:Value):(w.setCell ⟨gb,k,none⟩ u).ownsRow 0 e 1 (.slice (some ⟨gb,0,none⟩) n c) n (xs.set k u):=by
 have:=(h.stored k u).1
 simpa using this
theorem z0y {w:World} {e:TypeId} {gb n c x k:Nat} {xs:List Value} (h:w.ownsRow 0 e 1 (.slice (some ⟨gb,0,none⟩) n c) n xs) (hne:gb≠x) (u:Value):(w.setCell ⟨x,k,none⟩ u).ownsRow 0 e 1 (.slice (some ⟨gb,0,none⟩) n c) n xs:=
 z2k h (a:=⟨x,k,none⟩) (fun e=>hne (by simpa [Value.ownBlock] using e)) u
theorem obj_oth {w:World} {g x k:Nat} {o:Obj} (h:w.heap[g]?=some o) (hne:g≠x) (u:Value):(w.setCell ⟨x,k,none⟩ u).heap[g]?=some o:=by
 rw[Below.heap_setCell _ _ _ _ (fun e=>hne (by have e':g=x:=e; exact e'))]; exact h
theorem WAt.ne {w:World} {g gp nt ns:Nat} {B:WB} {W:Wd} (h:WAt w g gp nt ns B W) :
  (g≠B.d/\g≠B.h/\g≠B.t/\g≠B.g/\g≠B.l/\g≠B.o/\g≠B.f)/\(B.d≠B.h/\B.d≠B.t/\B.d≠B.g/\B.d≠B.l/\B.d≠B.o/\B.d≠B.f)/\(B.h≠B.t/\B.h≠B.g/\B.h≠B.l/\B.h≠B.o/\B.h≠B.f)/\(B.t≠B.g/\B.t≠B.l/\B.t≠B.o/\B.t≠B.f) ∧
  (B.g≠B.l/\B.g≠B.o/\B.g≠B.f)/\(B.l≠B.o/\B.l≠B.f)/\B.o≠B.f:=by
 have:=h.nd;simp only[WB.bs,List.nodup_cons,List.mem_cons,List.not_mem_nil,not_or,or_false,not_false_eq_true,List.nodup_nil,and_true] at this;obtain⟨⟨a1,a2,a3,a4,a5,a6,a7⟩,⟨b1,b2,b3,b4,b5,b6⟩,⟨c1,c2,c3,c4,c5⟩,⟨d1,d2,d3,d4⟩,⟨e1,e2,e3⟩,⟨f1,f2⟩,g1⟩:=this;exact⟨⟨a1,a2,a3,a4,a5,a6,a7⟩,⟨b1,b2,b3,b4,b5,b6⟩,⟨c1,c2,c3,c4,c5⟩,⟨d1,d2,d3,d4⟩,⟨e1,e2,e3⟩,⟨f1,f2⟩,g1⟩
theorem WAt.setDone {w:World} {g gp nt ns:Nat} {B:WB} {W:Wd} (h:WAt w g gp nt ns B W) (i x:Nat):WAt (w.setCell ⟨B.d,i,none⟩ (.int .i64 x)) g gp nt ns B { W with done:=W.done.set i x }:=by
 obtain⟨⟨a1,a2,a3,a4,a5,a6,a7⟩,⟨b1,b2,b3,b4,b5,b6⟩,⟨c1,c2,c3,c4,c5⟩,⟨d1,d2,d3,d4⟩,⟨e1,e2,e3⟩,⟨f1,f2⟩,g1⟩:=h.ne;exact⟨obj_oth h.obj a1 _,by have:=z5c h.d i (.int .i64 x); rw[intsV_set] at this; exact this,z0y h.h b1.symm _,z0y h.t b2.symm _,z0y h.gn b3.symm _,z0y h.l b4.symm _,z0y h.o b5.symm _,z0y h.f b6.symm _,h.nd⟩
theorem WAt.setHead {w:World} {g gp nt ns:Nat} {B:WB} {W:Wd} (h:WAt w g gp nt ns B W) (i:Nat) (x:Int):WAt (w.setCell ⟨B.h,i,none⟩ (.int .i64 x)) g gp nt ns B { W with head:=W.head.set i x }:=by
 obtain⟨⟨a1,a2,a3,a4,a5,a6,a7⟩,⟨b1,b2,b3,b4,b5,b6⟩,⟨c1,c2,c3,c4,c5⟩,⟨d1,d2,d3,d4⟩,⟨e1,e2,e3⟩,⟨f1,f2⟩,g1⟩:=h.ne;exact⟨obj_oth h.obj a2 _,z0y h.d b1 _,by have:=z5c h.h i (.int .i64 x); rw[intsZ_set] at this; exact this,z0y h.t c1.symm _,z0y h.gn c2.symm _,z0y h.l c3.symm _,z0y h.o c4.symm _,z0y h.f c5.symm _,h.nd⟩
theorem WAt.setTail {w:World} {g gp nt ns:Nat} {B:WB} {W:Wd} (h:WAt w g gp nt ns B W) (i:Nat) (x:Int):WAt (w.setCell ⟨B.t,i,none⟩ (.int .i64 x)) g gp nt ns B { W with tail:=W.tail.set i x }:=by
 obtain⟨⟨a1,a2,a3,a4,a5,a6,a7⟩,⟨b1,b2,b3,b4,b5,b6⟩,⟨c1,c2,c3,c4,c5⟩,⟨d1,d2,d3,d4⟩,⟨e1,e2,e3⟩,⟨f1,f2⟩,g1⟩:=h.ne;exact⟨obj_oth h.obj a3 _,z0y h.d b2 _,z0y h.h c1 _,by have:=z5c h.t i (.int .i64 x); rw[intsZ_set] at this; exact this,z0y h.gn d1.symm _,z0y h.l d2.symm _,z0y h.o d3.symm _,z0y h.f d4.symm _,h.nd⟩
theorem WAt.setGone {w:World} {g gp nt ns:Nat} {B:WB} {W:Wd} (h:WAt w g gp nt ns B W) (i:Nat) (x:Bool):WAt (w.setCell ⟨B.g,i,none⟩ (.bool x)) g gp nt ns B { W with gone:=W.gone.set i x }:=by
 obtain⟨⟨a1,a2,a3,a4,a5,a6,a7⟩,⟨b1,b2,b3,b4,b5,b6⟩,⟨c1,c2,c3,c4,c5⟩,⟨d1,d2,d3,d4⟩,⟨e1,e2,e3⟩,⟨f1,f2⟩,g1⟩:=h.ne;exact⟨obj_oth h.obj a4 _,z0y h.d b3 _,z0y h.h c2 _,z0y h.t d1 _,by have:=z5c h.gn i (.bool x); rw[boolsV_set] at this; exact this,z0y h.l e1.symm _,z0y h.o e2.symm _,z0y h.f e3.symm _,h.nd⟩
theorem WAt.setLie {w:World} {g gp nt ns:Nat} {B:WB} {W:Wd} (h:WAt w g gp nt ns B W) (i x:Nat):WAt (w.setCell ⟨B.l,i,none⟩ (.int .u8 x)) g gp nt ns B { W with lie:=W.lie.set i x }:=by
 obtain⟨⟨a1,a2,a3,a4,a5,a6,a7⟩,⟨b1,b2,b3,b4,b5,b6⟩,⟨c1,c2,c3,c4,c5⟩,⟨d1,d2,d3,d4⟩,⟨e1,e2,e3⟩,⟨f1,f2⟩,g1⟩:=h.ne;exact⟨obj_oth h.obj a5 _,z0y h.d b4 _,z0y h.h c3 _,z0y h.t d2 _,z0y h.gn e1 _,by have:=z5c h.l i (.int .u8 x); rw[bytsV_set] at this; exact this,z0y h.o f1.symm _,z0y h.f f2.symm _,h.nd⟩
theorem WAt.setTo {w:World} {g gp nt ns:Nat} {B:WB} {W:Wd} (h:WAt w g gp nt ns B W) (i x:Nat):WAt (w.setCell ⟨B.o,i,none⟩ (.int .u8 x)) g gp nt ns B { W with aim:=W.aim.set i x }:=by
 obtain⟨⟨a1,a2,a3,a4,a5,a6,a7⟩,⟨b1,b2,b3,b4,b5,b6⟩,⟨c1,c2,c3,c4,c5⟩,⟨d1,d2,d3,d4⟩,⟨e1,e2,e3⟩,⟨f1,f2⟩,g1⟩:=h.ne;exact⟨obj_oth h.obj a6 _,z0y h.d b5 _,z0y h.h c4 _,z0y h.t d3 _,z0y h.gn e2 _,z0y h.l f1 _,by have:=z5c h.o i (.int .u8 x); rw[bytsV_set] at this; exact this,z0y h.f g1.symm _,h.nd⟩
theorem WAt.setLeft {w:World} {g gp nt ns:Nat} {B:WB} {W:Wd} (h:WAt w g gp nt ns B W) (i x:Nat):WAt (w.setCell ⟨B.f,i,none⟩ (.int .i64 x)) g gp nt ns B { W with left:=W.left.set i x }:=by
 obtain⟨⟨a1,a2,a3,a4,a5,a6,a7⟩,⟨b1,b2,b3,b4,b5,b6⟩,⟨c1,c2,c3,c4,c5⟩,⟨d1,d2,d3,d4⟩,⟨e1,e2,e3⟩,⟨f1,f2⟩,g1⟩:=h.ne;exact⟨obj_oth h.obj a7 _,z0y h.d b6 _,z0y h.h c5 _,z0y h.t d4 _,z0y h.gn e3 _,z0y h.l f2 _,z0y h.o g1 _,by have:=z5c h.f i (.int .i64 x); rw[intsV_set] at this; exact this,h.nd⟩
def WF (g:Nat) (B:WB) (b:Nat):Prop:=b∈g :: B.bs
theorem z46 {w:World} {g:Nat} {B:WB} {x k:Nat} (u:Value) (hx:x∈g :: B.bs):Only (WF g B) w (w.setCell ⟨x,k,none⟩ u):=Only.setCell (F:=WF g B) (a:=⟨x,k,none⟩) hx u
structure WOK (L:Lay) (W:Wd) (t:Nat):Prop where
 dl:W.done.getD t 0<=(L.tn t).jny.length
 hb:-1<=W.head.getD t 0
 hl:0<=W.head.getD t 0->W.done.getD t 0 < (L.tn t).jny.length/\(W.head.getD t 0).toNat < (secs (L.rt (W.rt L t)).path).length/\-1<=W.tail.getD t 0/\W.tail.getD t 0<=W.head.getD t 0
set_option maxRecDepth 100000 in
set_option maxHeartbeats 8000000 in
theorem wplace_any (g gp nt ns:Nat) (B:WB) (W:Wd) (L:Lay) (t:Nat) (i:Int) (w:World) (hW:WAt w g gp nt ns B W) (hk:KPl w gp L) (hL:LayK L) (hnt:nt=L.tns.length) (ht:t < nt) (hd:W.done.getD t 0 < (L.tn t).jny.length) (hi:i < 0\/(0<=i/\i.toNat < (secs (L.rt (W.rt L t)).path).length)) :
  Calls Tryz.prog 154 #[.pointer (some ⟨g,0,none⟩),.int .i64 t,.int .i64 i] w fun e w'=>e=.returned (.int .i64 (W.place L t i:Nat))/\∃m,w'=w.drewN m:=by
 have ht':t < L.tns.length:=by omega
 obtain⟨⟨o0,o1,-⟩,hg⟩:=hW.cells;obtain⟨⟨x1,-,hbd⟩,-⟩:=hW.train ht;obtain⟨htn,hrt,hjl,hjr,hpn⟩:=hL;have hjl:=hjl t ht';have hjr:=hjr t ht';obtain⟨vh,vp,vf,va,vk,vw,vs,vj,e,-,-,a3,a4,-,-,-,a8⟩:=hk;obtain⟨⟨-,-,-,-,-,c5,c6,-,-,-,c10⟩,hgp⟩:=z0k e;obtain⟨gj,oj,cj,ar,cr,ev,hgj,xr,hui⟩:=z23 a8 t (by simpa using ht');subst ev;rw[z4h ht'] at xr hui;rw[List.length_map,<-hnt] at c10;obtain⟨ar',cr',hvv,hmr,hrow⟩:=z24 hui;simp only[Value.slice.injEq] at hvv;obtain⟨rfl,-,rfl⟩:=hvv;obtain⟨d,hde⟩:∃d,d=W.done.getD t 0:=⟨_,rfl⟩
 obtain⟨Z,hZ⟩:∃Z,Z=W.place L t i:=⟨_,rfl⟩
 rw[<-hZ];unfold Wd.place at hZ;unfold Wd.rt at hi hZ;rw[<-hde] at hi hZ x1 hd;rw[z05 hd] at hi hZ;obtain⟨gq,oq,rfl,hgq,xq⟩:=hrow d hd;have hrr:=hjr _ (List.getElem_mem hd);obtain⟨r,hre⟩:∃r,r=(L.tn t).jny[d]:=⟨_,rfl⟩
 rw[<-hre] at xq hi hZ hrr;obtain⟨jl,hjle⟩:∃n,n=(L.tn t).jny.length:=⟨_,rfl⟩
 rw[<-hjle] at xr hd hjl;obtain⟨nr,hnr⟩:∃n,n=L.rts.length:=⟨_,rfl⟩
 have l1:(t:Int) < nt:=by omega
 have l2:(0:Int)<=t:=by omega
 have l3:(d:Int) < jl:=by omega
 have l4:(0:Int)<=d:=by omega
 have l5:(0:Int)<=r:=by omega
 by_cases h1:i < 0
 ·rw[if_pos h1] at hZ
  obtain⟨af,cf,hvf,-,hrf⟩:=z24 a3;obtain⟨gf,of_,rfl,hgf,xf⟩:=hrf r (by simpa using hrr);have hfo:(L.rts.map (·.foot))[r]'(by simpa using hrr)=(L.rt r).foot:=by
   rw[List.getElem_map]; unfold Lay.rt; rw[z05 hrr]
  rw[hfo,<-hZ] at xf;rw[List.length_map,<-hnr] at hvf;subst hvf;rw[<-hnr] at hrr;have l6:(r:Int) < nr:=by omega
  have h1':decide (i < 0)=true:=by simpa using h1
  clear hW hrow hui e a3 a4 a8 hZ hi hfo hrf hre hjle hnr hde hnt;go_enter Tryz.func154,Tryz.ntmps154
  go_wp2
  go_quiet (fail)
  go_wp2
  go_ret
  exact⟨rfl,_,rfl⟩
 ·rw[if_neg h1] at hZ
  have hi2:0<=i/\i.toNat < (secs (L.rt r).path).length:=by rcases hi with h | h; exact absurd h h1; exact h
  obtain⟨k,hke⟩:∃k:Nat,i=k:=⟨i.toNat,by omega⟩
  subst hke;rw[Int.toNat_natCast] at hi2 hZ;obtain⟨hp0,hp1⟩:=hpn r hrr;obtain⟨ga,oa,ca,ar2,cr2,ev,hga,xr2,hui2⟩:=z23 a4 r (by simpa using hrr);subst ev;rw[z42 hrr] at xr2 hui2;rw[List.length_map,<-hnr] at c6;obtain⟨ar3,cr3,hv3,hm3,hrow3⟩:=z24 hui2;simp only[Value.slice.injEq] at hv3;obtain⟨rfl,-,rfl⟩:=hv3;obtain⟨gy,oy,rfl,hgy,xy⟩:=hrow3 k hi2.2;rw[z05 hi2.2] at hZ;rw[<-hZ] at xy;obtain⟨pl,hpl⟩:∃n,n=(secs (L.rt r).path).length:=⟨_,rfl⟩
  rw[<-hpl] at xr2 hi2;rw[<-hnr] at hrr;have l6:(r:Int) < nr:=by omega
  have l7:(k:Int) < pl:=by omega
  have l8:(0:Int)<=k:=by omega
  have h1':decide ((k:Int) < 0)=false:=by simp
  clear hW hrow hui e a3 a4 a8 hZ hi hre hjle hnr hde hnt hui2 hrow3 hpl h1;go_enter Tryz.func154,Tryz.ntmps154
  go_wp2
  go_quiet (fail)
  go_wp2
  go_ret
  exact⟨rfl,_,rfl⟩
set_option maxRecDepth 100000 in
set_option maxHeartbeats 8000000 in
theorem won_any (g gp nt ns:Nat) (B:WB) (W:Wd) (L:Lay) (t s:Nat) (w:World) (hW:WAt w g gp nt ns B W) (hk:KPl w gp L) (hL:LayK L) (hnt:nt=L.tns.length) (ht:t < nt) (hO:WOK L W t) :
  Calls Tryz.prog 125 #[.pointer (some ⟨g,0,none⟩),.int .i64 t,.int .i64 s] w fun e w'=>e=.returned (.bool (W.onB L t s))/\∃m,w'=w.drewN m:=by
 have HPL:=zh (fun (i:Int) (n:Nat) (hd:W.done.getD t 0 < (L.tn t).jny.length) (hi:i < 0\/(0<=i/\i.toNat < (secs (L.rt (W.rt L t)).path).length))=>wplace_any g gp nt ns B W L t i (w.drewN n) (hW.below (below_drewN (Below.refl _ _) n)) (hk.below (below_drewN (Below.refl _ _) n)) hL hnt ht hd hi);have HWN:=zh (fun (n:Nat)=>(hW.below (below_drewN (Below.refl _ _) n)));have ht':t < L.tns.length:=by omega
 obtain⟨⟨o0,o1,o2,o3,o4,-⟩,hg⟩:=hW.cells;obtain⟨⟨x1,-,hbd⟩,⟨x2,-,hbh⟩,⟨x3,-,hbt⟩,⟨x4,-,hbg⟩⟩:=hW.train ht;obtain⟨htn,hrt,hjl,hjr,hpn⟩:=hL;have hjl:=hjl t ht';have hjr:=hjr t ht';have hdl:=hO.dl;have hhb:=hO.hb;have hhl:=hO.hl;have HHL:=zh hhl;obtain⟨Z,hZ⟩:∃Z,Z=W.onB L t s:=⟨_,rfl⟩
 rw[<-hZ];unfold Wd.onB at hZ;obtain⟨gn,hgn⟩:∃b,b=W.gone.getD t false:=⟨_,rfl⟩
 rw[<-hgn] at hZ x4;obtain⟨hd,hhd⟩:∃b,b=W.head.getD t 0:=⟨_,rfl⟩
 rw[<-hhd] at hZ x2 hhb HHL;obtain⟨tl,htl⟩:∃b,b=W.tail.getD t 0:=⟨_,rfl⟩
 rw[<-htl] at hZ x3 HHL;obtain⟨d,hde⟩:∃d,d=W.done.getD t 0:=⟨_,rfl⟩
 rw[<-hde] at x1 hdl HHL HPL;have l1:(t:Int) < nt:=by omega
 have l2:(0:Int)<=t:=by omega
 cases gn with
 | true=>
  rw[if_pos rfl] at hZ;subst hZ;clear hgn hhd htl hde hhl hW hO hk hnt;go_enter Tryz.func125,Tryz.ntmps125
  go_wp2
  go_ret
  exact⟨rfl,0,rfl⟩
 | false=>
  rw[if_neg (by decide)] at hZ;by_cases h1:hd < 0
  ·rw[if_pos h1] at hZ
   have h1':decide (hd < 0)=true:=by simpa using h1
   unfold Wd.stand at hZ;rw[<-hde] at hZ;obtain⟨vh,vp,vf,va,vk,vw,vs,vj,e,-,-,-,a4,-,-,a7,a8⟩:=hk;obtain⟨⟨-,-,-,-,-,-,c6,-,-,c9,c10⟩,hgp⟩:=z0k e;obtain⟨as_,cs,hvs,-,hrs⟩:=z24 a7;obtain⟨gs,os,rfl,hgs,xs⟩:=hrs t (by simpa using ht');rw[stand_at ht'] at xs;rw[List.length_map,<-hnt] at hvs;subst hvs;by_cases h2:d=0
   ·rw[if_pos h2] at hZ
    subst h2;generalize (L.tn t).start=st at *;by_cases h3:st=s
    ·have hz:Z=true:=by rw[hZ]; simpa using h3
     subst h3 hz;clear hgn hhd htl hde hhl hW hO hnt hZ e a4 a7 a8 hrs;go_enter Tryz.func125,Tryz.ntmps125
     go_wp2
     go_ret
     exact⟨rfl,0,rfl⟩
    ·have hz:Z=false:=by rw[hZ]; simpa using h3
     have b1:((st:Int)==(s:Int))=false:=by simp; omega
     subst hz;clear hgn hhd htl hde hhl hW hO hnt hZ e a4 a7 a8 hrs;go_enter Tryz.func125,Tryz.ntmps125
     go_wp2
     go_ret
     exact⟨rfl,0,rfl⟩
   ·rw[if_neg h2] at hZ
    obtain⟨gj,oj,cj,ar,cr,ev,hgj,xr,hui⟩:=z23 a8 t (by simpa using ht');subst ev;rw[z4h ht'] at xr hui;rw[List.length_map,<-hnt] at c10;obtain⟨ar',cr',hvv,hmr,hrow⟩:=z24 hui;simp only[Value.slice.injEq] at hvv;obtain⟨rfl,-,rfl⟩:=hvv;obtain⟨n1,hn1⟩:∃n,n=d - 1:=⟨_,rfl⟩
    rw[<-hn1] at hZ;have hn1l:n1 < (L.tn t).jny.length:=by omega
    obtain⟨gq,oq,rfl,hgq,xq⟩:=hrow n1 hn1l;rw[z05 hn1l] at hZ;have hrr:=hjr _ (List.getElem_mem hn1l);obtain⟨r,hre⟩:∃r,r=(L.tn t).jny[n1]:=⟨_,rfl⟩
    rw[<-hre] at xq hZ hrr;obtain⟨hp0,hp1⟩:=hpn r hrr;obtain⟨ga,oa,ca,ar2,cr2,ev,hga,xr2,hui2⟩:=z23 a4 r (by simpa using hrr);subst ev;rw[z42 hrr] at xr2 hui2;rw[List.length_map] at c6;obtain⟨ar3,cr3,hv3,hm3,hrow3⟩:=z24 hui2;simp only[Value.slice.injEq] at hv3;obtain⟨rfl,-,rfl⟩:=hv3;obtain⟨gy,oy,rfl,hgy,xy⟩:=hrow3 ((secs (L.rt r).path).length - 1) (by omega);rw[lastN_secs _ hp0] at xy;unfold Lay.endOf at hZ;generalize lastN (L.rt r).path=st at *;obtain⟨jl,hjle⟩:∃n,n=(L.tn t).jny.length:=⟨_,rfl⟩
    rw[<-hjle] at xr hjl hdl;obtain⟨pl,hpl⟩:∃n,n=(secs (L.rt r).path).length:=⟨_,rfl⟩
    rw[<-hpl] at xr2 xy hp0 hp1;obtain⟨nr,hnr⟩:∃n,n=L.rts.length:=⟨_,rfl⟩
    rw[<-hnr] at c6 hrr hrt;obtain⟨p1,hpp⟩:∃n,n=pl - 1:=⟨_,rfl⟩
    rw[<-hpp] at xy;have e1:(d:Int) - 1=n1:=by omega
    have e2:(pl:Int) - 1=p1:=by omega
    have b2:n1<=1000:=by omega
    have b3:p1<=1000:=by omega
    have l3:(n1:Int) < jl:=by omega
    have l4:(r:Int) < nr:=by omega
    have l5:(p1:Int) < pl:=by omega
    have l6:(0:Int)<=n1:=by omega
    have l7:(0:Int)<=r:=by omega
    have l8:(0:Int)<=p1:=by omega
    have f1:(0:Int) < d:=by omega
    have f1':decide (0 < d)=true:=by simp; omega
    by_cases h3:st=s
    ·have hz:Z=true:=by rw[hZ]; simpa using h3
     subst h3 hz;clear hgn hhd htl hde hhl hW hO hnt hZ e a4 a7 a8 hrs hrow hui hrow3 hui2 hre hn1 hpp hpl hnr hjle hn1l;go_enter Tryz.func125,Tryz.ntmps125
     go_wp2
     go_quiet (fail)
     go_wp2
     go_ret
     exact⟨rfl,_,rfl⟩
    ·have hz:Z=false:=by rw[hZ]; simpa using h3
     have b1:((st:Int)==(s:Int))=false:=by simp; omega
     subst hz;clear hgn hhd htl hde hhl hW hO hnt hZ e a4 a7 a8 hrs hrow hui hrow3 hui2 hre hn1 hpp hpl hnr hjle hn1l;go_enter Tryz.func125,Tryz.ntmps125
     go_wp2
     go_quiet (fail)
     go_wp2
     go_ret
     exact⟨rfl,_,rfl⟩
  ·rw[if_neg h1] at hZ
   have h1':decide (hd < 0)=false:=by simpa using h1
   obtain⟨f1,f2,f3,f4⟩:=uh HHL (by omega);have HZ:=zh hZ;obtain⟨q,hqe⟩:∃q:Nat,hd=q:=⟨hd.toNat,by omega⟩
   subst hqe;have hq:q < (secs (L.rt (W.rt L t)).path).length:=by simpa using f2
   obtain⟨hp0,hp1⟩:0 < (secs (L.rt (W.rt L t)).path).length/\(secs (L.rt (W.rt L t)).path).length<=1000:=hpn _ (hjr _ (by unfold Wd.rt; rw[<-hde,z05 f1]; exact List.getElem_mem f1));obtain⟨c,hce⟩:∃c:Nat,((q:Int) - tl+1).toNat=c:=⟨_,rfl⟩
   have hc2:tl+c=(q:Int)+1:=by omega
   rw[hce] at HZ;have HHQ:=zh hq;have HC2:=zh hc2;have bt:tl<=1000:=by omega
   have bq:q<=1000:=by omega
   have bc:c<=1002:=by omega
   have HF3:=zh f3;have HF4:=zh f4;clear hgn hhd htl hde hhl hW hO hnt hZ hk HHL f2 hce hc2 f3 f4 hp0 hp1 hq hhb;go_enter Tryz.func125,Tryz.ntmps125
   go_wp2
   go_loopw [9] (fun i wr=>∃k mm:Nat,k<=c/\i=.int .i64 (tl+(k:Int))/\wr=w.drewN mm/\∀j,j < k->W.place L t (tl+(j:Int))≠s) (fun i _=>(1003 - intOf i).toNat)
   case atStart=>exact⟨0,0,Nat.zero_le _,by simp,rfl,fun j h=>by omega⟩
   case round=>
    obtain⟨k,mm,hkc,rfl,hwr,hno⟩:=hrel;have HWR:=zh hwr;have HNO:=zh hno;have hWr:=uh HWN mm;rw[<-hwr] at hWr;obtain⟨⟨p0,p1,p2,p3,p4,-⟩,pg⟩:=hWr.cells;obtain⟨-,⟨y2,-,pbh⟩,-⟩:=hWr.train ht;have y2':wr.cell? ⟨B.h,t,none⟩=some (.int .i64 (q:Int)):=by rw[hwr]; exact x2
    obtain⟨i,hie⟩:∃i:Int,i=tl+k:=⟨_,rfl⟩
    rw[<-hie];have hc2:=uh HC2;have f3:=uh HF3;have f4:=uh HF4;have HIE:=zh hie;by_cases hlt:k < c
    ·have h2:i<=(q:Int):=by omega
     have h2':decide (i<=(q:Int))=true:=by simpa using h2
     have HP1:=zh (uh HPL i mm f1 (by
      have:=uh HHQ;by_cases h:i < 0
      ·exact .inl h
      ·exact .inr ⟨by omega,by omega⟩))
     rw[<-hwr] at HP1;have HNX:=zh (show W.place L t i≠s->∀j,j < k+1->W.place L t (tl+(j:Int))≠s from fun hn j hj=>by
      by_cases e:j=k
      ·subst e; rw[<-hie]; exact hn
      ·exact uh HNO j (by omega))
     have HYES:=zh (show W.place L t i=s->Z=true from fun hy=>by
      rw[uh HZ,List.any_eq_true];exact⟨k,List.mem_range.2 hlt,by rw[<-hie,hy]; simp⟩)
     generalize W.place L t i=pv at *;have bi:i<=1001:=by omega
     have bi2:-2<=i:=by omega
     have hme:(1003 - (i+1)).toNat < (1003 - i).toNat:=by omega
     have HVI:=zh (show Value.int .i64 (i+1)=.int .i64 (tl+((k+1:Nat):Int)) by congr 1; omega);clear hWr hwr hno y2 hie hc2 f3 f4;go_wp2_with fail
     refine(uh HP1).mono ?_;rintro e w2 ⟨rfl,m2,hw2⟩;by_cases h3:pv=s
     ·have hz:=uh HYES h3
      subst h3 hz;have HW2:=zh hw2;clear hw2;go_wp2
      go_ret
      exact⟨rfl,mm+m2,by rw[uh HW2,uh HWR,z1h]⟩
     ·have b1:((pv:Int)==(s:Int))=false:=by simp; omega
      have HN2:=zh (uh HNX h3);have HW2:=zh hw2;have ei:IntKind.i64.wrap (i+1)=i+1:=Go.IntWalk.i64_in _ (by omega);clear hw2;go_wp2
      exact⟨⟨k+1,mm+m2,by omega,uh HVI,by rw[uh HW2,uh HWR,z1h],uh HN2⟩,by simpa [intOf] using hme⟩
    ·have h2:¬i<=(q:Int):=by omega
     have h2':decide (i<=(q:Int))=false:=by simpa using h2
     have hz:Z=false:=by
      rw[uh HZ,List.any_eq_false];intro j hj;have hjk:j < k:=by have:=List.mem_range.1 hj; omega
      have:=hno j hjk
      simpa using this
     subst hz;clear hWr hwr hno y2 hie hc2 f3 f4;go_wp2
     go_ret
     exact⟨rfl,mm,uh HWR⟩
set_option maxRecDepth 100000 in
set_option maxHeartbeats 4000000 in
theorem wtaken_any (g gp nt ns:Nat) (B:WB) (W:Wd) (L:Lay) (s:Nat) (w:World) (hW:WAt w g gp nt ns B W) (hk:KPl w gp L) (hL:LayK L) (hnt:nt=L.tns.length) (hO:∀t,t < nt->WOK L W t) :
  Calls Tryz.prog 88 #[.pointer (some ⟨g,0,none⟩),.int .i64 s] w fun e w'=>e=.returned (.bool (W.takenB L s))/\∃m,w'=w.drewN m:=by
 have HON:=zh (fun (t n:Nat) (ht:t < nt)=>won_any g gp nt ns B W L t s (w.drewN n) (hW.below (below_drewN (Below.refl _ _) n)) (hk.below (below_drewN (Below.refl _ _) n)) hL hnt ht (hO t ht));have HWN:=zh (fun (n:Nat)=>(hW.below (below_drewN (Below.refl _ _) n)));have htn:=hL.tn;rw[<-hnt] at htn;obtain⟨Z,hZ⟩:∃Z,Z=W.takenB L s:=⟨_,rfl⟩
 rw[<-hZ];unfold Wd.takenB at hZ;rw[<-hnt] at hZ;have HZ:=zh hZ;clear hW hk hL hO hZ hnt;go_enter Tryz.func88,Tryz.ntmps88
 go_wp2
 go_loopw [5] (fun i wr=>∃k mm:Nat,k<=nt/\i=.int .i64 k/\wr=w.drewN mm/\∀j,j < k->W.onB L j s=false) (fun i _=>nt - (intOf i).toNat)
 case atStart=>exact⟨0,0,Nat.zero_le _,rfl,rfl,fun j h=>by omega⟩
 case round=>
  obtain⟨k,mm,hk,rfl,hwr,hno⟩:=hrel;have HWR:=zh hwr;have HNO:=zh hno;have hWr:=uh HWN mm;rw[<-hwr] at hWr;obtain⟨⟨p0,p1,p2,p3,p4,-⟩,pg⟩:=hWr.cells;by_cases hlt:k < nt
  ·have HO1:=zh (uh HON k mm hlt)
   rw[<-hwr] at HO1;have HYES:=zh (show W.onB L k s=true->Z=true from fun hy=>by
    rw[uh HZ,List.any_eq_true];exact⟨k,List.mem_range.2 hlt,hy⟩)
   have HNX:=zh (show W.onB L k s=false->∀j,j < k+1->W.onB L j s=false from fun hn j hj=>by
    by_cases e:j=k
    ·subst e; exact hn
    ·exact uh HNO j (by omega))
   generalize W.onB L k s=bv at *;have l1:(k:Int) < nt:=by omega
   clear hWr hwr hno;go_wp2_with fail
   refine(uh HO1).mono ?_;rintro e w2 ⟨rfl,m2,hw2⟩;have HW2:=zh hw2;clear hw2;cases bv with
   | true=>
    have hz:=uh HYES rfl;subst hz;go_wp2
    go_ret
    exact⟨rfl,mm+m2,by rw[uh HW2,uh HWR,z1h]⟩
   | false=>
    have HN2:=zh (uh HNX rfl);go_wp2
    exact⟨⟨k+1,mm+m2,by omega,by go_num,by rw[uh HW2,uh HWR,z1h],uh HN2⟩,by simp[intOf]; omega⟩
  ·have l1:¬(k:Int) < nt:=by omega
   have hz:Z=false:=by
    rw[uh HZ,List.any_eq_false];intro j hj;have hjk:j < k:=by have:=List.mem_range.1 hj; omega
    rw[hno j hjk]; decide
   subst hz;clear hWr hwr hno;go_wp2
   go_ret
   exact⟨rfl,mm,uh HWR⟩
def Wd.entOK (W:Wd) (L:Lay) (t i:Nat):Prop:=
 W.takenB L ((secs (L.rt (W.rt L t)).path).getD i 0)=false/\(L.sw.getD ((secs (L.rt (W.rt L t)).path).getD i 0) false=true->W.aim.getD ((secs (L.rt (W.rt L t)).path).getD i 0) 0=0/\W.lie.getD ((secs (L.rt (W.rt L t)).path).getD i 0) 0=L.wantsF (W.rt L t) ((secs (L.rt (W.rt L t)).path).getD i 0))
theorem bools_at {w:World} {v:Value} {l:List Bool} (h:Bools w v l):∃ao cap,v=.slice ao l.length cap/\∀i (_:i < l.length),∃g off,ao=some ⟨g,off,none⟩/\g < w.heap.size/\w.cell? ⟨g,off+i,none⟩=some (.bool (l.getD i false)):=by
 obtain⟨ao,cap,rfl,h1,h2,h3⟩:=SlAt.open h;refine⟨ao,cap,rfl,fun i hi=>?_⟩;obtain⟨g,off,rfl,hg,cs,-,hC,hc⟩:=h3 i hi;unfold CBool at hC;subst hC;have:=hc 0 (by omega);refine⟨g,off,rfl,hg,?_⟩;rw[z05 hi]
 simpa using this
set_option maxRecDepth 100000 in
set_option maxHeartbeats 8000000 in
theorem wenter_yes (g gp nt ns:Nat) (B:WB) (W:Wd) (L:Lay) (t i:Nat) (w:World) (hW:WAt w g gp nt ns B W) (hk:KPl w gp L) (hL:LayK L) (hro:∀r,r < L.rts.length->RtOK L (L.rt r)) (hnt:nt=L.tns.length) (hns:ns=L.sw.length) (ht:t < nt) (hO:∀u,u < nt->WOK L W u)
  (hd:W.done.getD t 0 < (L.tn t).jny.length) (hi:i < (secs (L.rt (W.rt L t)).path).length) (hE:W.entOK L t i) :
  Calls Tryz.prog 89 #[.pointer (some ⟨g,0,none⟩),.int .i64 t,.int .i64 i] w fun e w'=>e=.returned (.bool true)/\WAt w' g gp nt ns B { W with head:=W.head.set t (i:Int) }/\Only (WF g B) w w':=by
 have ht':t < L.tns.length:=by omega
 have HTK:=zh (fun (s n:Nat)=>wtaken_any g gp nt ns B W L s (w.drewN n) (hW.below (below_drewN (Below.refl _ _) n)) (hk.below (below_drewN (Below.refl _ _) n)) hL hnt hO);obtain⟨⟨o0,o1,o2,-,-,o5,o6,-⟩,hg⟩:=hW.cells;obtain⟨⟨x1,-,hbd⟩,⟨x2,z2,hbh⟩,-⟩:=hW.train ht;obtain⟨htn,hrt,hjl,hjr,hpn⟩:=hL;have hjl:=hjl t ht';have hjr:=hjr t ht';obtain⟨vh,vp,vf,va,vk,vw,vs,vj,e,a1,-,-,a4,-,a6,-,a8⟩:=hk;obtain⟨⟨-,-,-,c3,-,-,c6,-,c8,-,c10⟩,hgp⟩:=z0k e;obtain⟨gj,oj,cj,ar,cr,ev,hgj,xr,hui⟩:=z23 a8 t (by simpa using ht');subst ev;rw[z4h ht'] at xr hui;rw[List.length_map,<-hnt] at c10;obtain⟨ar',cr',hvv,hmr,hrow⟩:=z24 hui;simp only[Value.slice.injEq] at hvv;obtain⟨rfl,-,rfl⟩:=hvv;obtain⟨d,hde⟩:∃d,d=W.done.getD t 0:=⟨_,rfl⟩
 have hrt0:W.rt L t=(L.tn t).jny[W.done.getD t 0]:=by unfold Wd.rt; rw[z05 hd]
 have hrr:=hjr _ (List.getElem_mem hd);rw[<-hrt0] at hrr;unfold Wd.entOK at hE;obtain⟨r,hre⟩:∃r,r=W.rt L t:=⟨_,rfl⟩
 rw[<-hre] at hi hE hrr hrt0;obtain⟨gq,oq,rfl,hgq,xq⟩:=hrow (W.done.getD t 0) hd;rw[<-hrt0,<-hde] at xq;rw[<-hde] at x1 hd;obtain⟨ga,oa,ca,ar2,cr2,ev,hga,xr2,hui2⟩:=z23 a4 r (by simpa using hrr);subst ev;rw[z42 hrr] at xr2 hui2;rw[List.length_map] at c6;obtain⟨ar3,cr3,hv3,hm3,hrow3⟩:=z24 hui2;simp only[Value.slice.injEq] at hv3;obtain⟨rfl,-,rfl⟩:=hv3;obtain⟨gy,oy,rfl,hgy,xy⟩:=hrow3 i hi;rw[z05 hi] at hE;have hss:(secs (L.rt r).path)[i] < L.sw.length:=by
  obtain⟨y,hy,e'⟩:=List.mem_map.1 (show (secs (L.rt r).path)[i]∈(L.rt r).path.map (·.1) from List.getElem_mem hi);rw[<-e']; exact((hro r hrr).ps y hy).1
 obtain⟨s,hse⟩:∃s,s=(secs (L.rt r).path)[i]:=⟨_,rfl⟩
 rw[<-hse] at xy hE hss;obtain⟨hE1,hE2⟩:=hE;have HT1:=zh (fun (n:Nat)=>uh HTK s n);rw[hE1] at HT1;obtain⟨ab,cb,hvb,hrb⟩:=bools_at a1;obtain⟨gb,ob,rfl,hgb,xb⟩:=hrb s hss;subst hvb;obtain⟨⟨y5,-,hb5⟩,⟨y6,-,hb6⟩,-⟩:=hW.switch (s:=s) (by omega);obtain⟨gv,ov,cv,gr,or_,crr,rfl,hgv,hrw⟩:=want_at a6 hrr (hro r hrr);obtain⟨xw,hgr,hcw⟩:=hrw (by omega);have xws:=hcw s hss;rw[<-hns] at c3 xw hss;obtain⟨jl,hjle⟩:∃n,n=(L.tn t).jny.length:=⟨_,rfl⟩
 rw[<-hjle] at xr hd hjl;obtain⟨pl,hpl⟩:∃n,n=(secs (L.rt r).path).length:=⟨_,rfl⟩
 rw[<-hpl] at xr2 hi;obtain⟨nr,hnr⟩:∃n,n=L.rts.length:=⟨_,rfl⟩
 rw[<-hnr] at c6 c8 hrr hrt;have HFI:=zh (fun (n:Nat)=>show WAt ((w.drewN n).setCell ⟨B.h,t,none⟩ (.int .i64 (i:Int))) g gp nt ns B { W with head:=W.head.set t (i:Int) }/\Only (WF g B) w ((w.drewN n).setCell ⟨B.h,t,none⟩ (.int .i64 (i:Int))) from ⟨(hW.below (below_drewN (Below.refl _ _) n)).setHead t i,(z1i (Only.refl _ _) n).trans (z46 _ (by simp[WB.bs]))⟩);generalize L.sw.getD s false=bs at *;generalize W.aim.getD s 0=av at *;generalize W.lie.getD s 0=lv at *;generalize L.wantsF r s=wv at *;generalize W.head.getD t 0=hv at *;have l1:(t:Int) < nt:=by omega
 have l2:(0:Int)<=t:=by omega
 have l3:(d:Int) < jl:=by omega
 have l4:(0:Int)<=d:=by omega
 have l5:(0:Int)<=r:=by omega
 have l6:(r:Int) < nr:=by omega
 have l7:(i:Int) < pl:=by omega
 have l8:(0:Int)<=i:=by omega
 have l9:(s:Int) < ns:=by omega
 have l10:(0:Int)<=s:=by omega
 clear hW hrow hui e a1 a4 a6 a8 hre hjle hnr hde hnt hns hui2 hrow3 hpl hse hrt0 hrb hrw hcw hro hO HTK hE1;go_enter Tryz.func89,Tryz.ntmps89
 go_wp2
 go_quiet (fail)
 go_wp2_with fail
 refine(uh HT1 nq).mono ?_;rintro e w2 ⟨rfl,m2,hw2⟩;obtain⟨m3,hm3'⟩:∃m3,w2=w.drewN m3:=⟨nq+m2,by rw[hw2,z1h]⟩
 subst hm3';clear hw2;cases bs with
 | false=>
  go_wp2
  go_quiet (fail)
  go_wp2
  go_ret
  exact⟨rfl,by simpa [z1h] using uh HFI _⟩
 | true=>
  obtain⟨h1,h2⟩:=hE2 rfl;subst h1 h2;go_wp2
  go_quiet (fail)
  go_wp2
  go_ret
  exact⟨rfl,by simpa [z1h] using uh HFI _⟩
def Wd.plen (W:Wd) (L:Lay) (t:Nat):Nat:=(secs (L.rt (W.rt L t)).path).length
def Wd.move (W:Wd) (L:Lay) (t:Nat) (lm:ByteArray):Wd:=
 if (L.tn t).jny.length<=W.done.getD t 0 then { W with gone:=W.gone.set t true }
 else if W.head.getD t 0 < 0 then (if pk lm (W.rt L t)=103 then { W with tail:=W.tail.set t (-1),head:=W.head.set t 0 } else W)
 else if W.tail.getD t 0=W.head.getD t 0 then { W with head:=W.head.set t (W.head.getD t 0+1) }
 else if W.head.getD t 0=(W.plen L t:Int) - 1 then { W with tail:=W.tail.set t (W.head.getD t 0),done:=W.done.set t (W.done.getD t 0+1),head:=W.head.set t (-1) }
 else { W with tail:=W.tail.set t (W.head.getD t 0) }
set_option maxRecDepth 100000 in
set_option maxHeartbeats 16000000 in
theorem wmove_yes (g gp nt ns:Nat) (B:WB) (W:Wd) (L:Lay) (t:Nat) (lm:ByteArray) (w:World) (hW:WAt w g gp nt ns B W) (hkp:∀wz,Only (WF g B) w wz->KPl wz gp L) (hL:LayK L) (hro:∀r,r < L.rts.length->RtOK L (L.rt r)) (hnt:nt=L.tns.length) (hns:ns=L.sw.length) (ht:t < nt) (hO:∀u,u < nt->WOK L W u)
  (hlm:lm.size=L.rts.length) (hE1:W.done.getD t 0 < (L.tn t).jny.length->W.head.getD t 0 < 0->pk lm (W.rt L t)=103->({ W with tail:=W.tail.set t (-1) }:Wd).entOK L t 0)
  (hE2:W.done.getD t 0 < (L.tn t).jny.length->0<=W.head.getD t 0->W.tail.getD t 0=W.head.getD t 0->(W.head.getD t 0).toNat+1 < W.plen L t/\W.entOK L t ((W.head.getD t 0).toNat+1)) :
  Calls Tryz.prog 57 #[.pointer (some ⟨g,0,none⟩),.int .i64 t,.string lm] w fun e w'=>e=.returned (.bool true)/\WAt w' g gp nt ns B (W.move L t lm)/\Only (WF g B) w w':=by
 have ht':t < L.tns.length:=by omega
 have hk:=hkp w (Only.refl _ _);have HKP:=zh hkp;have HLA:=zh hL;have HRO:=zh hro;have HOO:=zh hO;have HWA:=zh hW;have hlens:=hW.lens;have HEN:=zh (fun (W':Wd) (i:Nat) (wz:World) (hz:Only (WF g B) w wz) (hW':WAt wz g gp nt ns B W') (hO':∀u,u < nt->WOK L W' u) (hd:W'.done.getD t 0 < (L.tn t).jny.length) (hi:i < (secs (L.rt (W'.rt L t)).path).length) (hE:W'.entOK L t i)=>wenter_yes g gp nt ns B W' L t i wz hW' (hkp wz hz) hL hro hnt hns ht hO' hd hi hE);obtain⟨⟨o0,o1,o2,o3,o4,-⟩,hg⟩:=hW.cells;obtain⟨⟨x1,z1,hbd⟩,⟨x2,z2,hbh⟩,⟨x3,z3,hbt⟩,⟨x4,z4,hbg⟩⟩:=hW.train ht;obtain⟨htn,hrt,hjl,hjr,hpn⟩:=hL;have hjl:=hjl t ht';have hjr:=hjr t ht';have hOt:=hO t ht;obtain⟨vh,vp,vf,va,vk,vw,vs,vj,e,-,-,-,a4,-,-,-,a8⟩:=hk;obtain⟨⟨-,-,-,-,-,-,c6,-,-,-,c10⟩,hgp⟩:=z0k e;obtain⟨gj,oj,cj,ar,cr,ev,hgj,xr,hui⟩:=z23 a8 t (by simpa using ht');subst ev;rw[z4h ht'] at xr hui;rw[List.length_map,<-hnt] at c10;obtain⟨M,hM⟩:∃M,M=W.move L t lm:=⟨_,rfl⟩
 rw[<-hM];unfold Wd.move at hM;have l1:(t:Int) < nt:=by omega
 have l2:(0:Int)<=t:=by omega
 have hdl:=hOt.dl;by_cases h1:(L.tn t).jny.length<=W.done.getD t 0
 ·rw[if_pos h1] at hM
  have HFI:=zh (show WAt (w.setCell ⟨B.g,t,none⟩ (.bool true)) g gp nt ns B M/\Only (WF g B) w (w.setCell ⟨B.g,t,none⟩ (.bool true)) from ⟨by rw[hM]; exact hW.setGone t true,z46 _ (by simp[WB.bs])⟩);generalize W.done.getD t 0=d at *;generalize W.gone.getD t false=gv at *;obtain⟨jl,hjle⟩:∃n,n=(L.tn t).jny.length:=⟨_,rfl⟩
  rw[<-hjle] at xr hjl h1 hdl;have d1:(jl:Int)<=d:=by omega
  have d2:decide (jl<=d)=true:=by simpa using h1
  clear hW hui e a4 a8 hM hjle hnt hns hOt hkp hro hO hE1 hE2 HEN HOO HLA HRO hlens;go_enter Tryz.func57,Tryz.ntmps57
  go_wp2
  go_ret
  exact⟨rfl,uh HFI⟩
 rw[if_neg h1] at hM;have hd:W.done.getD t 0 < (L.tn t).jny.length:=by omega
 have hE1:=hE1 hd;have hE2:=hE2 hd;obtain⟨ar',cr',hvv,hmr,hrow⟩:=z24 hui;simp only[Value.slice.injEq] at hvv;obtain⟨rfl,-,rfl⟩:=hvv;have hrt0:W.rt L t=(L.tn t).jny[W.done.getD t 0]:=by unfold Wd.rt; rw[z05 hd]
 have hrr:=hjr _ (List.getElem_mem hd);rw[<-hrt0] at hrr;obtain⟨gq,oq,rfl,hgq,xq⟩:=hrow (W.done.getD t 0) hd;rw[<-hrt0] at xq;obtain⟨hp0,hp1⟩:=hpn _ hrr;have hrl:W.rt L t < lm.size:=by omega
 by_cases h2:W.head.getD t 0 < 0
 ·rw[if_pos h2] at hM
  have hE1:=hE1 h2;have HE1:=zh hE1;have HD:=zh hd;have HH2:=zh h2;have h2':decide (W.head.getD t 0 < 0)=true:=by simpa using h2
  obtain⟨u,hu⟩:∃u,(lm[W.rt L t]'hrl).toNat=u:=⟨_,rfl⟩
  rw[<-z18 lm _ hrl,hu] at hM HE1;have HP0:=zh hp0;obtain⟨r,hre⟩:∃r,r=W.rt L t:=⟨_,rfl⟩
  have HRE:=zh hre;obtain⟨d,hde⟩:∃d,d=W.done.getD t 0:=⟨_,rfl⟩
  obtain⟨hv,hhv⟩:∃d,d=W.head.getD t 0:=⟨_,rfl⟩
  obtain⟨tv,htv⟩:∃d,d=W.tail.getD t 0:=⟨_,rfl⟩
  obtain⟨jl,hjle⟩:∃n,n=(L.tn t).jny.length:=⟨_,rfl⟩
  rw[<-hde] at x1 xq hd;rw[<-hhv] at x2 h2';rw[<-htv] at x3;rw[<-hjle] at xr hjl hd;have hrl2:r < lm.size:=by omega
  have hu2:(lm[r]'hrl2).toNat=u:=by subst hre; exact hu
  rw[<-hre] at xq;have d1:¬(jl:Int)<=d:=by omega
  have d2:decide (jl<=d)=false:=by simp; omega
  have l3:(d:Int) < jl:=by omega
  have l4:(0:Int)<=d:=by omega
  have l5:(0:Int)<=r:=by omega
  have l6:(r:Int) < lm.size:=by omega
  have l7:decide (lm.size<=r)=false:=by simp; omega
  have l8:¬(lm.size:Int)<=r:=by omega
  have h2'':hv < 0:=by simpa using h2'
  by_cases h3:u=103
  ·subst h3
   rw[if_pos rfl] at hM;have HM:=zh hM;have HSW:=zh (show WAt (w.setCell ⟨B.t,t,none⟩ (.int .i64 (-1))) g gp nt ns B { W with tail:=W.tail.set t (-1) }/\Only (WF g B) w (w.setCell ⟨B.t,t,none⟩ (.int .i64 (-1))) from ⟨hW.setTail t (-1),z46 _ (by simp[WB.bs])⟩);clear hW hui e a4 a8 hM hjle hnt hns hOt hkp hro hO hE1 hE2 hrow hrt0 hrr hp0 hp1 hre hde hhv htv hu h1 h2 hrl hlens hdl;go_enter Tryz.func57,Tryz.ntmps57
   go_wp2_with fail
   have hEN:=uh HEN { W with tail:=W.tail.set t (-1) } 0 (w.setCell ⟨B.t,t,none⟩ (.int .i64 (-1))) (uh HSW).2 (uh HSW).1 (fun u hu=>by
    have:=uh HOO u hu;by_cases eu:u=t
    ·subst eu
     exact⟨this.dl,this.hb,fun h=>by have h2:=uh HH2; have h':0<=W.head.getD u 0:=h; omega⟩
    ·refine⟨this.dl,this.hb,fun h=>?_⟩
     have h3:=this.hl h;refine⟨h3.1,h3.2.1,?_⟩;show -1<=(W.tail.set t (-1)).getD u 0/\(W.tail.set t (-1)).getD u 0<=_;rw[z0h _ _ _ _ _ eu];exact h3.2.2) (uh HD) (uh HP0) (uh HE1 (by first | trivial | rfl))
   refine hEN.mono ?_;rintro e w2 ⟨rfl,hw2,ho2⟩;have HF2:=zh (And.intro hw2 ho2);clear hw2 ho2 hEN;go_wp2
   go_ret
   refine⟨rfl,?_,(uh HSW).2.trans (uh HF2).2⟩;rw[uh HM];exact(uh HF2).1
  ·rw[if_neg h3] at hM
   have b1:((u:Int) != 103)=true:=by simp; omega
   have HFI:=zh (show WAt w g gp nt ns B M/\Only (WF g B) w w from ⟨by rw[hM]; exact hW,Only.refl _ _⟩);clear hW hui e a4 a8 hM hjle hnt hns hOt hkp hro hO hE1 hE2 hrow hrt0 hrr hp0 hp1 hre hde hhv htv hu h1 h2 hrl hlens hdl HEN HOO HLA HRO;go_enter Tryz.func57,Tryz.ntmps57
   go_wp2
   go_ret
   exact⟨rfl,uh HFI⟩
 rw[if_neg h2] at hM;have hE2:=hE2 (by omega);obtain⟨q1,q2,q3,q4⟩:=hOt.hl (by omega);unfold Wd.plen at hE2 hM;obtain⟨r,hre⟩:∃r,r=W.rt L t:=⟨_,rfl⟩
 obtain⟨d,hde⟩:∃d,d=W.done.getD t 0:=⟨_,rfl⟩
 obtain⟨hn,hhn⟩:∃n:Nat,W.head.getD t 0=n:=⟨(W.head.getD t 0).toNat,by omega⟩
 obtain⟨tv,htv⟩:∃d,d=W.tail.getD t 0:=⟨_,rfl⟩
 obtain⟨jl,hjle⟩:∃n,n=(L.tn t).jny.length:=⟨_,rfl⟩
 have HHN:=zh hhn;have HD:=zh hd;have HTV:=zh htv;have HDE:=zh hde;rw[hhn] at hE2 hM x2 q2 q4;rw[<-htv] at hE2 hM x3 q3 q4;rw[<-hde] at x1 xq hd;rw[<-hjle] at xr hjl hd;rw[<-hre] at xq hrr;rw[Int.toNat_natCast] at hE2 q2;obtain⟨ga,oa,ca,ar2,cr2,ev,hga,xr2,hui2⟩:=z23 a4 r (by simpa using hrr);subst ev;rw[z42 hrr] at xr2;rw[List.length_map] at c6;obtain⟨nr,hnr⟩:∃n,n=L.rts.length:=⟨_,rfl⟩
 obtain⟨pl,hpl⟩:∃n,n=(secs (L.rt (W.rt L t)).path).length:=⟨_,rfl⟩
 rw[<-hnr] at c6 hrr hrt;rw[hre,<-hpl] at xr2;rw[<-hpl] at hE2 hM q2 hp0 hp1;rw[<-hre] at xr2;have HPL:=zh hpl;have d1:¬(jl:Int)<=d:=by omega
 have d2:decide (jl<=d)=false:=by simp; omega
 have l3:(d:Int) < jl:=by omega
 have l4:(0:Int)<=d:=by omega
 have l5:(0:Int)<=r:=by omega
 have l6:(r:Int) < nr:=by omega
 have h2':decide ((hn:Int) < 0)=false:=by simp
 have bhn:hn<=1000:=by omega
 have HLE:=zh hlens;by_cases h3:tv=(hn:Int)
 ·rw[if_pos h3] at hM
  obtain⟨e1,e2⟩:=hE2 h3;have HM:=zh hM;have HE2:=zh (And.intro e1 e2);subst h3;have HW0:=zh hW;clear hW hui e a4 a8 hM hjle hnt hns hOt hkp hro hO hE1 hE2 hrow hrt0 hp0 hp1 hre hde hhn htv h1 h2 hrl hlens hdl hui2 hpl hnr e1 e2 q1 q2 q3 q4;go_enter Tryz.func57,Tryz.ntmps57
  go_wp2
  go_quiet (fail)
  go_wp2_with fail
  have hEN:=uh HEN W (hn+1) (w.drewN nq) (z1i (Only.refl _ _) nq) ((uh HW0).below (below_drewN (Below.refl _ _) nq)) (uh HOO) (uh HD) (by have:=(uh HE2).1; have h4:=uh HPL; omega) (uh HE2).2;rw[show ((hn+1:Nat):Int)=(hn:Int)+1 by omega] at hEN;refine hEN.mono ?_;rintro e w2 ⟨rfl,hw2,ho2⟩;have HF2:=zh (And.intro hw2 ((z1i (Only.refl _ _) nq).trans ho2));clear hw2 ho2 hEN;go_wp2
  go_ret
  refine⟨rfl,?_,(uh HF2).2⟩;rw[uh HM];exact(uh HF2).1
 ·rw[if_neg h3] at hM
  have b3:(tv==(hn:Int))=false:=by simpa using h3
  have HM:=zh hM;have HST:=zh (fun (n:Nat)=>show WAt ((w.drewN n).setCell ⟨B.t,t,none⟩ (.int .i64 (hn:Int))) g gp nt ns B { W with tail:=W.tail.set t (hn:Int) }/\Only (WF g B) w ((w.drewN n).setCell ⟨B.t,t,none⟩ (.int .i64 (hn:Int))) from ⟨(hW.below (below_drewN (Below.refl _ _) n)).setTail t hn,(z1i (Only.refl _ _) n).trans (z46 _ (by simp[WB.bs]))⟩);have bt1:-1<=tv:=q3;have bt2:tv<=1000:=by omega
  have HNR:=zh hnr;have HRR:=zh (And.intro hrr (And.intro hre q2));have HPP:=zh (And.intro hp0 hp1);have HNT:=zh (And.intro ht ht');clear hW hui e a4 a8 hM hjle hnt hns hOt hkp hro hO hE1 hE2 hrow hrt0 hp0 hp1 hre hde hhn htv h1 h2 hrl hlens hdl hui2 hpl hnr q1 q2 q3 q4 HEN h3;go_enter Tryz.func57,Tryz.ntmps57
  go_wp2
  go_quiet (fail)
  go_wp2
  go_region
  obtain⟨W3,hW3⟩:∃W3,W3=(w.drewN (nq+1)).setCell ⟨B.t,t,none⟩ (.int .i64 (hn:Int)):=⟨_,rfl⟩
  rw[<-hW3];have h3s:=uh HST (nq+1);rw[<-hW3] at h3s;clear hW3 HST;have H3S:=zh h3s;obtain⟨ht,ht'⟩:=uh HNT;obtain⟨hrr,hre,q2⟩:=uh HRR;obtain⟨hp0,hp1⟩:=uh HPP;obtain⟨⟨r0,r1,r2,r3,r4,-⟩,rg⟩:=h3s.1.cells;obtain⟨⟨s1,y1,sbd⟩,⟨s2,y2,sbh⟩,-⟩:=h3s.1.train ht;change W3.cell? ⟨B.d,t,none⟩=some (.int .i64 (W.done.getD t 0:Nat)) at s1;change W3.cell? ⟨B.h,t,none⟩=some (.int .i64 (W.head.getD t 0)) at s2;rw[uh HHN] at s2;rw[<-uh HDE] at s1;obtain⟨vh',vp',vf',va',vk',vw',vs',vj',e',-,-,-,a4',-⟩:=uh HKP W3 h3s.2;obtain⟨⟨-,-,-,-,-,-,c6',-⟩,hgp'⟩:=z0k e';have hrr2:r < L.rts.length:=by have:=uh HNR; omega
  obtain⟨ga',oa',ca',ar3,cr3,ev,hga',xr3,-⟩:=z23 a4' r (by simpa using hrr2);subst ev;rw[z42 hrr2,hre,<-uh HPL] at xr3;rw[<-hre] at xr3;rw[List.length_map,<-uh HNR] at c6';obtain⟨p1,hpp⟩:∃n,n=pl - 1:=⟨_,rfl⟩
  have e2:(pl:Int) - 1=p1:=by omega
  have b4:p1<=1000:=by omega
  have HPE:=zh hpp;clear e' a4' h3s hpp hp0 hp1 q2 hre o0 o1 o2 o3 o4 hg x1 x2 x3 x4 z1 z2 z3 z4 hbd hbh hbt hbg c6 c10 hgp hgj xr hgq xq hga xr2;obtain⟨dd,hdd⟩:∃x,x=d+1:=⟨_,rfl⟩
  have bdd:dd<=1001:=by omega
  have ed:(d:Int)+1=dd:=by omega
  by_cases h5:hn=p1
  ·have b5:((hn:Int)==(p1:Int))=true:=by simp; omega
   have hM5:M={ W with tail:=W.tail.set t (hn:Int),done:=W.done.set t dd,head:=W.head.set t (-1) }:=by
    rw[uh HM,if_pos (by have:=uh HPE; have:=(uh HPP).1; omega),<-uh HDE,hdd]
   have HM5:=zh hM5;have HS4:=zh (fun (n:Nat)=>show WAt ((W3.drewN n).setCell ⟨B.d,t,none⟩ (.int .i64 (dd:Int))) g gp nt ns B { W with tail:=W.tail.set t (hn:Int),done:=W.done.set t dd }/\Only (WF g B) w ((W3.drewN n).setCell ⟨B.d,t,none⟩ (.int .i64 (dd:Int))) from ⟨((uh H3S).1.below (below_drewN (Below.refl _ _) n)).setDone t dd,((uh H3S).2.trans (z1i (Only.refl _ _) n)).trans (z46 _ (by simp[WB.bs]))⟩);have bd:d<=1000:=by omega
   clear hM5 h5 hdd;go_wp2
   go_quiet (fail)
   go_wp2
   go_region
   have h4s:=uh HS4 (nq+1);obtain⟨W4,hW4⟩:∃W4,W4=(W3.drewN (nq+1)).setCell ⟨B.d,t,none⟩ (.int .i64 (dd:Int)):=⟨_,rfl⟩
   rw[<-hW4] at h4s;rw[<-hW4];clear hW4 HS4;have H4S:=zh h4s;obtain⟨⟨r0,r1,r2,r3,r4,-⟩,rg⟩:=h4s.1.cells;obtain⟨-,⟨s2,y2,sbh⟩,-⟩:=h4s.1.train ht;have HFI:=zh (show WAt (W4.setCell ⟨B.h,t,none⟩ (.int .i64 (-1))) g gp nt ns B M/\Only (WF g B) w (W4.setCell ⟨B.h,t,none⟩ (.int .i64 (-1))) from ⟨by rw[uh HM5]; exact h4s.1.setHead t (-1),h4s.2.trans (z46 _ (by simp[WB.bs]))⟩);clear h4s;go_wp2
   go_ret
   exact⟨rfl,uh HFI⟩
  ·have b5:((hn:Int)==(p1:Int))=false:=by simp; omega
   have hM5:M={ W with tail:=W.tail.set t (hn:Int) }:=by
    rw[uh HM,if_neg (by have:=uh HPE; have:=(uh HPP).1; omega)]
   have HFI:=zh (fun (n:Nat)=>show WAt (W3.drewN n) g gp nt ns B M/\Only (WF g B) w (W3.drewN n) from ⟨by rw[hM5]; exact(uh H3S).1.below (below_drewN (Below.refl _ _) n),(uh H3S).2.trans (z1i (Only.refl _ _) n)⟩);clear hM5 h5 hdd;go_wp2
   go_quiet (fail)
   go_wp2
   go_ret
   exact⟨rfl,uh HFI _⟩
def Wd.turn1 (W:Wd) (s m slow:Nat):Wd:=if m=46\/m=W.aim.getD s 0 then W else { W with aim:=W.aim.set s m,left:=W.left.set s slow }
def Wd.turnN (W:Wd) (L:Lay) (mv:ByteArray) (slow:Nat):Nat->Wd
 | 0=>W
 | k+1=>(W.turnN L mv slow k).turn1 ((z03 0 L.sw).getD k 0) (pk mv k) slow
def SameT (W W':Wd):Prop:=W'.done=W.done/\W'.head=W.head/\W'.tail=W.tail/\W'.gone=W.gone
theorem SameT.on {W W':Wd} (h:SameT W W') (L:Lay) (t s:Nat):W'.onB L t s=W.onB L t s:=by
 obtain⟨h1,h2,h3,h4⟩:=h;unfold Wd.onB Wd.place Wd.stand Wd.rt;rw[h1,h2,h3,h4]
theorem SameT.taken {W W':Wd} (h:SameT W W') (L:Lay) (s:Nat):W'.takenB L s=W.takenB L s:=by
 unfold Wd.takenB
 congr 1
 funext t
 exact h.on L t s
theorem SameT.ok {W W':Wd} (h:SameT W W') {L:Lay} {t:Nat} (ho:WOK L W t):WOK L W' t:=by
 obtain⟨h1,h2,h3,h4⟩:=h;have hr:W'.rt L t=W.rt L t:=by unfold Wd.rt; rw[h1]
 exact⟨by rw[h1]; exact ho.dl,by rw[h2]; exact ho.hb,by rw[hr,h1,h2,h3]; exact ho.hl⟩
theorem turn1_same (W:Wd) (s m slow:Nat):SameT W (W.turn1 s m slow):=by
 unfold Wd.turn1;split <;> exact⟨rfl,rfl,rfl,rfl⟩
theorem z5u (W:Wd) (L:Lay) (mv:ByteArray) (slow:Nat):∀k,SameT W (W.turnN L mv slow k)
 | 0=>⟨rfl,rfl,rfl,rfl⟩
 | k+1=>by
  obtain⟨a1,a2,a3,a4⟩:=z5u W L mv slow k;obtain⟨b1,b2,b3,b4⟩:=turn1_same (W.turnN L mv slow k) ((z03 0 L.sw).getD k 0) (pk mv k) slow;exact⟨b1.trans a1,b2.trans a2,b3.trans a3,b4.trans a4⟩
set_option maxRecDepth 100000 in
set_option maxHeartbeats 16000000 in
theorem wturn_yes (g gp nt ns:Nat) (B:WB) (W:Wd) (L:Lay) (mv:ByteArray) (slow:Nat) (w:World) (hW:WAt w g gp nt ns B W) (hkp:∀wz,Only (WF g B) w wz->KPl wz gp L) (hL:LayK L) (hnt:nt=L.tns.length) (hns:ns=L.sw.length) (hsw:L.sw.length<=100) (hO:∀u,u < nt->WOK L W u)
  (hmv:mv.size=(z03 0 L.sw).length) (hT:∀k,k < (z03 0 L.sw).length->pk mv k=46\/pk mv k=(W.turnN L mv slow k).aim.getD ((z03 0 L.sw).getD k 0) 0\/W.takenB L ((z03 0 L.sw).getD k 0)=false) :
  Calls Tryz.prog 56 #[.pointer (some ⟨g,0,none⟩),.string mv,.int .i64 slow] w fun e w'=>e=.returned (.bool true)/\WAt w' g gp nt ns B (W.turnN L mv slow (z03 0 L.sw).length)/\Only (WF g B) w w':=by
 have HKP:=zh hkp;have HTK:=zh (fun (W':Wd) (s:Nat) (wz:World) (hz:Only (WF g B) w wz) (hW':WAt wz g gp nt ns B W') (hs:SameT W W')=>wtaken_any g gp nt ns B W' L s wz hW' (hkp wz hz) hL hnt (fun u hu=>hs.ok (hO u hu)));have HT:=zh hT;have HW0:=zh hW;have hpb:(z03 0 L.sw).length<=100:=by
  have h2:=z44 L.sw 0;have h3:cntT L.sw<=L.sw.length:=by unfold cntT; exact List.length_filter_le _ _
  omega
 have HPS:=zh (fun (k:Nat) (hk:k < (z03 0 L.sw).length)=>(rep_pts (s:=mv) hk).1);obtain⟨np,hnp⟩:∃n,n=(z03 0 L.sw).length:=⟨_,rfl⟩
 have HNP:=zh hnp;have HNS:=zh hns;rw[<-hnp] at hmv hpb;clear hW hkp hL hnt hns hO hT;go_enter Tryz.func56,Tryz.ntmps56
 go_wp2
 go_loopw [7] (fun i wr=>∃k:Nat,k<=np/\i=.int .i64 k/\Only (WF g B) w wr/\WAt wr g gp nt ns B (W.turnN L mv slow k)) (fun i _=>np - (intOf i).toNat)
 case atStart=>exact⟨0,Nat.zero_le _,rfl,Only.refl _ _,uh HW0⟩
 case round=>
  obtain⟨k,hk,rfl,hor,hWk⟩:=hrel;have HOR:=zh hor;have HWK:=zh hWk;obtain⟨⟨o0,o1,o2,o3,o4,o5,o6,o7⟩,hg⟩:=hWk.cells;obtain⟨vh,vp,vf,va,vk,vw,vs,vj,e,-,a2,-⟩:=uh HKP wr hor;obtain⟨⟨-,-,-,-,c4,-⟩,hgp⟩:=z0k e;obtain⟨ap,cp,hvp,-,hrow⟩:=z24 a2;subst hvp;rw[<-uh HNP] at c4;by_cases hlt:k < np
  ·have hk':k < (z03 0 L.sw).length:=by rw[<-uh HNP]; exact hlt
   obtain⟨gq,oq,rfl,hgq,xq⟩:=hrow k hk';have hss:=uh HPS k hk';rw[<-uh HNS] at hss;have hTk:=uh HT k hk';rw[z05 hk'] at hTk;have HNX:=zh (show W.turnN L mv slow (k+1)=(W.turnN L mv slow k).turn1 ((z03 0 L.sw)[k]) (pk mv k) slow by rw[<-z05 (d:=0) hk']; rfl);have HSM:=zh (z5u W L mv slow k);generalize W.turnN L mv slow k=Wk at *;obtain⟨s,hse⟩:∃s,s=(z03 0 L.sw)[k]:=⟨_,rfl⟩
   rw[<-hse] at xq hss hTk HNX;obtain⟨-,⟨y6,z6,hb6⟩,⟨y7,z7,hb7⟩⟩:=hWk.switch hss;have hkm:k < mv.size:=by omega
   obtain⟨u,hu⟩:∃u,(mv[k]'hkm).toNat=u:=⟨_,rfl⟩
   rw[<-z18 mv k hkm,hu] at hTk HNX;have HTT:=zh hTk;obtain⟨av,hav⟩:∃a,a=Wk.aim.getD s 0:=⟨_,rfl⟩
   rw[<-hav] at y6;generalize Wk.left.getD s 0=lv at *;have l1:(k:Int) < np:=by omega
   have l2:(k:Int) < mv.size:=by omega
   have l3:(0:Int)<=k:=by omega
   have l4:(s:Int) < ns:=by omega
   have l5:(0:Int)<=s:=by omega
   by_cases h1:u=46
   ·have HN2:=zh (show W.turnN L mv slow (k+1)=Wk by rw[uh HNX]; unfold Wd.turn1; rw[if_pos (.inl h1)])
    subst h1;clear hTk hWk hor e a2 hrow hse hav HNX HTT;go_wp2
    go_quiet (fail)
    go_wp2
    exact⟨⟨k+1,by omega,by go_num,z1i (uh HOR) _,by rw[uh HN2]; exact(uh HWK).below (below_drewN (Below.refl _ _) _)⟩,by simp[intOf]; omega⟩
   ·have b1:((u:Int)==46)=false:=by simp; omega
    by_cases h2:u=av
    ·have HN2:=zh (show W.turnN L mv slow (k+1)=Wk by rw[uh HNX]; unfold Wd.turn1; rw[if_pos (.inr (h2.trans hav))])
     subst h2;clear hTk hWk hor e a2 hrow hse hav HNX HTT h1;go_wp2
     go_quiet (fail)
     go_wp2
     exact⟨⟨k+1,by omega,by go_num,z1i (uh HOR) _,by rw[uh HN2]; exact(uh HWK).below (below_drewN (Below.refl _ _) _)⟩,by simp[intOf]; omega⟩
    ·have b2:((u:Int)==(av:Int))=false:=by simp; omega
     have HN2:=zh (show W.turnN L mv slow (k+1)={ Wk with aim:=Wk.aim.set s u,left:=Wk.left.set s slow } by rw[uh HNX]; unfold Wd.turn1; rw[if_neg (fun h=>by rcases h with h | h; exact h1 h; exact h2 (h.trans hav.symm))]);have htk:W.takenB L s=false:=by
      rcases hTk with h | h | h
      ·exact absurd h h1
      ·exact absurd (h.trans hav.symm) h2
      ·exact h
     have HTF:=zh htk;have HS1:=zh (fun (n:Nat)=>show WAt ((wr.drewN n).setCell ⟨B.o,s,none⟩ (.int .u8 (u:Int))) g gp nt ns B { Wk with aim:=Wk.aim.set s u }/\Only (WF g B) w ((wr.drewN n).setCell ⟨B.o,s,none⟩ (.int .u8 (u:Int))) from ⟨(hWk.below (below_drewN (Below.refl _ _) n)).setTo s u,(z1i hor n).trans (z46 _ (by simp[WB.bs]))⟩);clear hTk hWk hor e a2 hrow hse hav HNX HTT h1 h2 htk;go_wp2
     go_quiet (fail)
     go_wp2
     go_region
     have h1s:=uh HS1 (nq+1);obtain⟨W1,hW1⟩:∃W1,W1=(wr.drewN (nq+1)).setCell ⟨B.o,s,none⟩ (.int .u8 (u:Int)):=⟨_,rfl⟩
     rw[<-hW1] at h1s ⊢;clear hW1 HS1;obtain⟨⟨p0,p1,p2,p3,p4,p5,p6,p7⟩,pg⟩:=h1s.1.cells;obtain⟨-,-,⟨r7,w7,hr7⟩⟩:=h1s.1.switch hss;have HS2:=zh (show WAt (W1.setCell ⟨B.f,s,none⟩ (.int .i64 (slow:Int))) g gp nt ns B { Wk with aim:=Wk.aim.set s u,left:=Wk.left.set s slow }/\Only (WF g B) w (W1.setCell ⟨B.f,s,none⟩ (.int .i64 (slow:Int))) from ⟨h1s.1.setLeft s slow,h1s.2.trans (z46 _ (by simp[WB.bs]))⟩);generalize ({ Wk with aim:=Wk.aim.set s u }:Wd).left.getD s 0=lv2 at *;clear h1s y6 y7 z6 z7 o0 o1 o2 o3 o4 o5 o6 o7 hg hgq xq c4 hgp hb6 hb7;go_wp2_with fail
     have hCT:=uh HTK { Wk with aim:=Wk.aim.set s u,left:=Wk.left.set s slow } s _ (uh HS2).2 (uh HS2).1 (by obtain⟨q1,q2,q3,q4⟩:=uh HSM; exact⟨q1,q2,q3,q4⟩);rw[SameT.taken (W:=W) (by obtain⟨q1,q2,q3,q4⟩:=uh HSM; exact⟨q1,q2,q3,q4⟩),uh HTF] at hCT;refine hCT.mono ?_;rintro e w3 ⟨rfl,m3,hw3⟩;have HF3:=zh (show WAt w3 g gp nt ns B (W.turnN L mv slow (k+1))/\Only (WF g B) w w3 by
      rw[uh HN2,hw3];exact⟨(uh HS2).1.below (below_drewN (Below.refl _ _) _),z1i (uh HS2).2 _⟩)
     clear hw3 hCT;go_wp2
     exact⟨⟨k+1,by omega,by go_num,(uh HF3).2,(uh HF3).1⟩,by simp[intOf]; omega⟩
  ·have l1:¬(k:Int) < np:=by omega
   have l2:¬(k:Int) < mv.size:=by omega
   have l2':decide (k < mv.size)=false:=by simp; omega
   obtain rfl:np=k:=by omega
   have HFI:=zh (show WAt wr g gp nt ns B (W.turnN L mv slow (z03 0 L.sw).length)/\Only (WF g B) w wr from ⟨by rw[<-uh HNP]; exact hWk,hor⟩);clear hWk hor e a2 hrow;go_wp2
   go_ret
   exact⟨rfl,uh HFI⟩
end Go.Proofs.YtkbpocecbcaiiabGreatDoor
