import Derived.Test.YtkbpocecbcaiiabGreatDoorO5
import Derived.Deep.DeepCutAuto
namespace Go.Proofs.YtkbpocecbcaiiabGreatDoor
open Go.RowKit
theorem KM.box {n:Nat} {w:World} {g T D Q:Nat} {k:KP} {V:Nat->Nat->Value} (h:KM n w g T D Q k V) :
  (w.cell? ⟨g,3,none⟩=some (V 3 0)/\w.cell? ⟨g,4,none⟩=some (V 4 0)/\w.cell? ⟨g,5,none⟩=some (V 5 0)/\w.cell? ⟨g,6,none⟩=some (V 6 0)/\w.cell? ⟨g,7,none⟩=some (V 7 0)/\w.cell? ⟨g,8,none⟩=some (V 8 0)/\w.cell? ⟨g,9,none⟩=some (V 9 0)/\w.cell? ⟨g,10,none⟩=some (V 10 0)) ∧
  (w.frozen? ⟨g,3,none⟩=false/\w.frozen? ⟨g,4,none⟩=false/\w.frozen? ⟨g,5,none⟩=false/\w.frozen? ⟨g,6,none⟩=false/\w.frozen? ⟨g,7,none⟩=false/\w.frozen? ⟨g,8,none⟩=false/\w.frozen? ⟨g,9,none⟩=false/\w.frozen? ⟨g,10,none⟩=false)/\g < w.heap.size:=
 ⟨⟨z07 h.cell 3,z07 h.cell 4,z07 h.cell 5,z07 h.cell 6,z07 h.cell 7,z07 h.cell 8,z07 h.cell 9,z07 h.cell 10⟩,
  ⟨z0c h.cell 3,z0c h.cell 4,z0c h.cell 5,z0c h.cell 6,z0c h.cell 7,z0c h.cell 8,z0c h.cell 9,z0c h.cell 10⟩,z0g h.cell⟩
theorem z1o {w:World} {g T D Q:Nat} {V:Nat->Nat->Value} (h:w.heap[g]?=some (kbox T D Q V)) :
  (w.cell? ⟨g,3,none⟩=some (V 3 0)/\w.cell? ⟨g,4,none⟩=some (V 4 0)/\w.cell? ⟨g,5,none⟩=some (V 5 0)/\w.cell? ⟨g,6,none⟩=some (V 6 0)/\w.cell? ⟨g,7,none⟩=some (V 7 0)/\w.cell? ⟨g,8,none⟩=some (V 8 0)/\w.cell? ⟨g,9,none⟩=some (V 9 0)/\w.cell? ⟨g,10,none⟩=some (V 10 0)) ∧
  (w.frozen? ⟨g,3,none⟩=false/\w.frozen? ⟨g,4,none⟩=false/\w.frozen? ⟨g,5,none⟩=false/\w.frozen? ⟨g,6,none⟩=false/\w.frozen? ⟨g,7,none⟩=false/\w.frozen? ⟨g,8,none⟩=false/\w.frozen? ⟨g,9,none⟩=false/\w.frozen? ⟨g,10,none⟩=false)/\g < w.heap.size:=
 ⟨⟨z07 h 3,z07 h 4,z07 h 5,z07 h 6,z07 h 7,z07 h 8,z07 h 9,z07 h 10⟩,
  ⟨z0c h 3,z0c h 4,z0c h 5,z0c h 6,z0c h 7,z0c h 8,z0c h 9,z0c h 10⟩,z0g h⟩
theorem z0u (k:KP) (i:Nat) (h:3<=i/\i<=10):KKey k i 0:=.inl ⟨h.1,h.2,rfl⟩
theorem KM.cell_grown {n:Nat} {w w2:World} {g T D Q:Nat} {k:KP} {V:Nat->Nat->Value} {o:Obj} (h:KM n w g T D Q k V) {i r:Nat} (hk:KKey k i r) (hg:(w.alloc o).grownBy w2 (V i r).ownBlock):w2.heap[g]?=some (kbox T D Q V):=
 ((z19 hg).block g (z0g h.cell) (fun e=>h.far hk e)).trans h.cell
theorem KM.below_grown {n:Nat} {w w2:World} {g T D Q:Nat} {k:KP} {V:Nat->Nat->Value} {o:Obj} (h:KM n w g T D Q k V) {i r:Nat} (hk:KKey k i r) (hg:(w.alloc o).grownBy w2 (V i r).ownBlock) (hn:n<=w.heap.size):Below n w w2:=by
 have ho:=z19 hg;exact⟨ho.os,ho.tape,ho.output,ho.size,fun b hb=>ho.block b (by omega) (fun e=>by have:=(h.lt hk e).1; omega)⟩
theorem z0m {n:Nat} {w0 w:World} (h:Below n w0 w) {g j:Nat} (hg:n<=g) (u:Value):Below n w0 (w.setCell ⟨g,j,none⟩ u):=h.setCell (p:=⟨g,j,none⟩) hg u
theorem KM.nw {n:Nat} {w:World} {g T D Q:Nat} {k:KP} {V:Nat->Nat->Value} (h:KM n w g T D Q k V):n<=w.heap.size:=by have:=z0g h.cell; have:=h.ng; omega
theorem ksec_has {n:Nat} {w w2:World} {g T D Q:Nat} {k:KP} {V:Nat->Nat->Value} {o:Obj} (h:KM n w g T D Q k V) {g4 c4 m:Nat} {b:Bool} (hm:m=k.has.length)
  (hown:w2.ownsRow n 4 1 (.slice (some ⟨g4,0,none⟩) (m+1) c4) (m+1) (z17 k.has++[.bool b])) (hg:(w.alloc o).grownBy w2 (V 3 0).ownBlock) (hat:(V 3 0).ownBlock=some g4\/w.heap.size<=g4) :
  KM n (w2.setCell ⟨g,3,none⟩ (.slice (some ⟨g4,0,none⟩) (m+1) c4)) g T D Q { k with has:=k.has++[b] } (updV V 3 0 (.slice (some ⟨g4,0,none⟩) (m+1) c4)):=by
 refine h.app (k':={ k with has:=k.has++[b] }) 3 (.inl rfl) (x:=.bool b) (by rw[hm]; show _=(z17 k.has).length; simp[z17]) hown hg hat (fun j q=>Iff.rfl) ?_ (fun V=>z3c _ _);intro V j q hne hk;unfold kcont;by_cases e:j=3
 ·subst e
  exfalso;rcases hk with ⟨-,-,e⟩ | e | e | e | e
  ·exact hne (by rw[e])
  all_goals omega
 ·simp only[if_neg e]
theorem ksec_pts {n:Nat} {w w2:World} {g T D Q:Nat} {k:KP} {V:Nat->Nat->Value} {o:Obj} (h:KM n w g T D Q k V) {g4 c4 m x:Nat} (hm:m=k.pts.length)
  (hown:w2.ownsRow n 3 1 (.slice (some ⟨g4,0,none⟩) (m+1) c4) (m+1) (intsV k.pts++[.int .i64 x])) (hg:(w.alloc o).grownBy w2 (V 4 0).ownBlock) (hat:(V 4 0).ownBlock=some g4\/w.heap.size<=g4) :
  KM n (w2.setCell ⟨g,4,none⟩ (.slice (some ⟨g4,0,none⟩) (m+1) c4)) g T D Q { k with pts:=k.pts++[x] } (updV V 4 0 (.slice (some ⟨g4,0,none⟩) (m+1) c4)):=by
 refine h.app (k':={ k with pts:=k.pts++[x] }) 4 (.inr (.inl rfl)) (x:=.int .i64 x) (by rw[hm]; show _=(intsV k.pts).length; simp[intsV]) hown hg hat (fun j q=>Iff.rfl) ?_ (fun V=>z0x _ _);intro V j q hne hk;unfold kcont;by_cases e:j=4
 ·subst e
  exfalso;rcases hk with ⟨-,-,e⟩ | e | e | e | e
  ·exact hne (by rw[e])
  all_goals omega
 ·simp only[if_neg e]
set_option maxRecDepth 100000 in
set_option maxHeartbeats 4000000 in
theorem ksection_any (n g T D Q:Nat) (k:KP) (V:Nat->Nat->Value) (c:Nat) (w:World) (h:KM n w g T D Q k V) (hl:k.has.length<=1000) (hp:k.pts.length<=1000) :
  Calls Tryz.prog 61 #[.pointer (some ⟨g,0,none⟩),.int .u8 c] w fun e w'=>e=.returned (.tuple #[])/\(∃V',KM n w' g T D Q (k.sec c) V')/\Below n w w':=by
 obtain⟨i0,hi0⟩:=info_parts Tryz.infoInt;have HI:=zh hi0;obtain⟨i1,hi1⟩:=info_parts Tryz.infoBool;have HJ:=zh hi1;have hn:=h.nw;have HK:=zh h;obtain⟨a3,e3,hv3⟩:=z02 (h.own 3 0 (z0u k 3 (by omega)));obtain⟨a4,e4,hv4⟩:=z02 (h.own 4 0 (z0u k 4 (by omega)));have el3:(kcont k V 3 0).length=k.has.length:=by show (z17 k.has).length=_; simp[z17]
 have el4:(kcont k V 4 0).length=k.pts.length:=by show (intsV k.pts).length=_; simp[intsV]
 rw[el3] at hv3;rw[el4] at hv4;have HO3:=zh (show w.ownsRow n 4 1 (.slice a3 k.has.length e3) k.has.length (z17 k.has) by
  have:=h.own 3 0 (z0u k 3 (by omega)); rw[el3,hv3] at this; exact this)
 have HO4:=zh (show w.ownsRow n 3 1 (.slice a4 k.pts.length e4) k.pts.length (intsV k.pts) by
  have:=h.own 4 0 (z0u k 4 (by omega)); rw[el4,hv4] at this; exact this)
 obtain⟨⟨c3,c4,c5,c6,c7,c8,c9,c10⟩,⟨f3,f4,-⟩,hgz⟩:=h.box;have HV:=zh (And.intro hv3 hv4);rw[hv3] at c3;rw[hv4] at c4;obtain⟨nh,hnh⟩:∃m,m=k.has.length:=⟨_,rfl⟩
 obtain⟨np,hnp⟩:∃m,m=k.pts.length:=⟨_,rfl⟩
 have HN:=zh (And.intro hnh hnp);rw[<-hnh] at HO3 c3 hl HV;rw[<-hnp] at HO4 c4 hp HV;clear h hi0 hi1 hv3 hv4 el3 el4 hnh hnp c5 c6 c7 c8 c9 c10;have hbool:∀(k1:KP) (V1:Nat->Nat->Value) (W:World),KM n W g T D Q k1 V1->V1 3 0=.slice a3 nh e3->k1.has=k.has->Hid (W.ownsRow n 4 1 (.slice a3 nh e3) nh (z17 k.has)):=fun k1 V1 W h1 h2 h3=>by
  have:=h1.own 3 0 (z0u k1 3 (by omega));have e:kcont k1 V1 3 0=z17 k.has:=by show z17 k1.has=_; rw[h3]
  have e2:(z17 k.has).length=nh:=by rw[(uh HN).1]; simp[z17]
  rw[e,e2,h2] at this;exact this
 by_cases hc:c=121
 ·subst hc
  have hcc:k.sec 121={ k with pts:=k.pts++[nh],has:=k.has++[true] }:=by
   unfold KP.sec;rw[if_pos rfl,(uh HN).1];rfl
  rw[hcc];go_enter Tryz.func61,Tryz.ntmps61
  go_wp2
  go_region_law (refine step_append_lies _ rfl (.tmp 10) (.tmp 16) 49 rfl n 3 i0 (.int .i64 0) 1 8 Tryz.underlying49 (uh HI).1 (uh HI).2.1 (uh HI).2.2.1 (uh HI).2.2.2 rfl (by decide) (.slice a4 np e4) np (intsV k.pts) (by simp[Act.eval]) (World.ownsRow.drew (World.ownsRow.alloc (uh HO4) _)) ⟨w.heap.size,0,none⟩ 1 1 [.int .i64 (nh:Nat)] (by simp[Act.eval]) rfl (z29 _ _ _) (z0a rfl) (by decide) (by unfold maxLen; omega) (by omega) (by simp; omega) _ rfl ?_; intro g4 d4 w4 hown4 hgrow4 hat4 hlt4; have hg4:=z20 hgrow4; have hb4:=(uh HK).cell_grown (z0u k 4 (by omega)) (by rw[(uh HV).2]; exact hg4); obtain⟨⟨r3,r4,-⟩,⟨z3,z4,-⟩,hgz4⟩:=z1o hb4; rw[(uh HV).1] at r3; rw[(uh HV).2] at r4)
  all_goals
   have hK1:=ksec_pts (uh HK) (m:=np) (x:=nh) (uh HN).2 hown4 (by rw[(uh HV).2]; exact hg4) (hat4.imp (fun e=>by rw[(uh HV).2]; exact e) (fun e=>by rw[e]; simp));have hB1:=z0m (j:=4) ((uh HK).below_grown (z0u k 4 (by omega)) (by rw[(uh HV).2]; exact hg4) hn) (uh HK).ng (.slice (some ⟨g4,0,none⟩) (np+1) d4);generalize hW1:w4.setCell ⟨g,4,none⟩ (.slice (some ⟨g4,0,none⟩) (np+1) d4)=W1 at *;have hv3:updV V 4 0 (.slice (some ⟨g4,0,none⟩) (np+1) d4) 3 0=.slice a3 nh e3:=(uh HV).1;have HR3:=hbool _ _ _ hK1 hv3 rfl;obtain⟨⟨s3,s4,-⟩,⟨y3,y4,-⟩,hgy⟩:=hK1.box;rw[hv3] at s3;have HK1:=zh hK1;have HV1:=zh hv3;have HB1:=zh hB1;have hn1:=hK1.nw;clear hK1 hv3 hB1 hown4 hgrow4 hat4 hlt4 hg4 hb4 r3 r4 z3 z4 hgz4 hW1 c3 c4 f3 f4;go_wp2_with (at_builtin; refine wpList_append_lies _ rfl _ _ 48 rfl n 4 i1 (.bool false) 1 1 Tryz.underlying48 (uh HJ).1 (uh HJ).2.1 (uh HJ).2.2.1 (uh HJ).2.2.2 rfl (by decide) (.slice a3 nh e3) nh (z17 k.has) rfl (World.ownsRow.alloc (uh HR3) _) ⟨W1.heap.size,0,none⟩ 1 1 [.bool true] rfl rfl (z0q _ _ _) (z0a rfl) (by decide) (by unfold maxLen; omega) (by omega) (by simp; omega) _ rfl ?_; intro g5 d5 w5 hown5 hgrow5 hat5 hlt5; have hb5:=(uh HK1).cell_grown (z0u _ 3 (by omega)) (by rw[uh HV1]; exact hgrow5); obtain⟨⟨r3,r4,-⟩,⟨z3,z4,-⟩,hgz5⟩:=z1o hb5)
   refine bodyPost_end (v:=.tuple #[]) (by simp[results,Tryz.results61,go_sem]) rfl ?_;refine⟨rfl,⟨_,ksec_has (uh HK1) (m:=nh) (b:=true) (uh HN).1 hown5 (by rw[uh HV1]; exact hgrow5) (hat5.imp (fun e=>by rw[uh HV1]; exact e) (fun e=>by rw[e]; simp))⟩,?_⟩;exact z0m ((uh HB1).trans ((uh HK1).below_grown (z0u _ 3 (by omega)) (by rw[uh HV1]; exact hgrow5) hn1)) (uh HK1).ng _
 ·have hcb:((c:Int)==121)=false:=by simp; omega
  have hcc:k.sec c={ k with has:=k.has++[false] }:=by
   unfold KP.sec;have e:(c==121)=false:=by simp[hc]
   rw[if_neg hc,e]
  rw[hcc];go_enter Tryz.func61,Tryz.ntmps61
  go_wp2_with (at_builtin; refine wpList_append_lies _ rfl _ _ 48 rfl n 4 i1 (.bool false) 1 1 Tryz.underlying48 (uh HJ).1 (uh HJ).2.1 (uh HJ).2.2.1 (uh HJ).2.2.2 rfl (by decide) (.slice a3 nh e3) nh (z17 k.has) rfl (World.ownsRow.alloc (uh HO3) _) ⟨w.heap.size,0,none⟩ 1 1 [.bool false] rfl rfl (z0q _ _ _) (z0a rfl) (by decide) (by unfold maxLen; omega) (by omega) (by simp; omega) _ rfl ?_; intro g5 d5 w5 hown5 hgrow5 hat5 hlt5; have hb5:=(uh HK).cell_grown (z0u _ 3 (by omega)) (by rw[(uh HV).1]; exact hgrow5); obtain⟨⟨r3,r4,-⟩,⟨z3,z4,-⟩,hgz5⟩:=z1o hb5)
  refine bodyPost_end (v:=.tuple #[]) (by simp[results,Tryz.results61,go_sem]) rfl ?_;refine⟨rfl,⟨_,ksec_has (uh HK) (m:=nh) (b:=false) (uh HN).1 hown5 (by rw[(uh HV).1]; exact hgrow5) (hat5.imp (fun e=>by rw[(uh HV).1]; exact e) (fun e=>by rw[e]; simp))⟩,?_⟩;exact z0m ((uh HK).below_grown (z0u _ 3 (by omega)) (by rw[(uh HV).1]; exact hgrow5) hn) (uh HK).ng _
theorem kstand_app {n:Nat} {w w2:World} {g T D Q:Nat} {k:KP} {V:Nat->Nat->Value} {o:Obj} (h:KM n w g T D Q k V) {g4 c4 m x:Nat} (hm:m=k.stand.length)
  (hown:w2.ownsRow n 3 1 (.slice (some ⟨g4,0,none⟩) (m+1) c4) (m+1) (intsV k.stand++[.int .i64 x])) (hg:(w.alloc o).grownBy w2 (V 9 0).ownBlock) (hat:(V 9 0).ownBlock=some g4\/w.heap.size<=g4) :
  KM n (w2.setCell ⟨g,9,none⟩ (.slice (some ⟨g4,0,none⟩) (m+1) c4)) g T D Q { k with stand:=k.stand++[x] } (updV V 9 0 (.slice (some ⟨g4,0,none⟩) (m+1) c4)):=by
 refine h.app (k':={ k with stand:=k.stand++[x] }) 9 (by omega) (x:=.int .i64 x) (by rw[hm]; show _=(intsV k.stand).length; simp[intsV]) hown hg hat (fun j q=>Iff.rfl) ?_ (fun V=>z0x _ _);intro V j q hne hk;unfold kcont;by_cases e:j=9
 ·subst e
  exfalso;rcases hk with ⟨-,-,e⟩ | e | e | e | e
  ·exact hne (by rw[e])
  all_goals omega
 ·simp only[if_neg e]
theorem kfoot_app {n:Nat} {w w2:World} {g T D Q:Nat} {k:KP} {V:Nat->Nat->Value} {o:Obj} (h:KM n w g T D Q k V) {g4 c4 m x:Nat} (hm:m=k.foot.length)
  (hown:w2.ownsRow n 3 1 (.slice (some ⟨g4,0,none⟩) (m+1) c4) (m+1) (intsV k.foot++[.int .i64 x])) (hg:(w.alloc o).grownBy w2 (V 5 0).ownBlock) (hat:(V 5 0).ownBlock=some g4\/w.heap.size<=g4) :
  KM n (w2.setCell ⟨g,5,none⟩ (.slice (some ⟨g4,0,none⟩) (m+1) c4)) g T D Q { k with foot:=k.foot++[x] } (updV V 5 0 (.slice (some ⟨g4,0,none⟩) (m+1) c4)):=by
 refine h.app (k':={ k with foot:=k.foot++[x] }) 5 (by omega) (x:=.int .i64 x) (by rw[hm]; show _=(intsV k.foot).length; simp[intsV]) hown hg hat (fun j q=>Iff.rfl) ?_ (fun V=>z0x _ _);intro V j q hne hk;unfold kcont;by_cases e:j=5
 ·subst e
  exfalso;rcases hk with ⟨-,-,e⟩ | e | e | e | e
  ·exact hne (by rw[e])
  all_goals omega
 ·simp only[if_neg e]
theorem z5h (V V':Nat->Value) (m:Nat) (x:Value) (h:∀q,q < m->V' q=V q) (hx:V' m=x):(List.range (m+1)).map V'=(List.range m).map V++[x]:=by
 rw[List.range_succ,List.map_append,List.map_cons,List.map_nil,hx]
 congr 1
 exact List.map_congr_left (fun q hq=>h q (List.mem_range.1 hq))
theorem z5i (l:List (List Nat)) (x:List Nat) (q:Nat) (h:q < l.length):(l++[x]).getD q []=l.getD q []:=by
 rw[List.getD_eq_getElem?_getD,List.getD_eq_getElem?_getD,List.getElem?_append_left h]
theorem z5j (l:List (List Nat)) (x:List Nat):(l++[x]).getD l.length []=x:=by
 rw[List.getD_eq_getElem?_getD,List.getElem?_append_right (Nat.le_refl _)]; simp
theorem kjny_app {n:Nat} {w w2:World} {g T D Q:Nat} {k:KP} {V:Nat->Nat->Value} {o:Obj} (h:KM n w g T D Q k V) {g4 c4 m:Nat} (hm:m=k.jny.length)
  (hown:w2.ownsRow n 49 1 (.slice (some ⟨g4,0,none⟩) (m+1) c4) (m+1) ((List.range k.jny.length).map (V 20)++[.slice none 0 0])) (hg:(w.alloc o).grownBy w2 (V 10 0).ownBlock) (hat:(V 10 0).ownBlock=some g4\/w.heap.size<=g4) :
  KM n (w2.setCell ⟨g,10,none⟩ (.slice (some ⟨g4,0,none⟩) (m+1) c4)) g T D Q { k with jny:=k.jny++[[]] } (updV (updV V 20 m (.slice none 0 0)) 10 0 (.slice (some ⟨g4,0,none⟩) (m+1) c4)):=by
 subst hm;refine h.appR (k':={ k with jny:=k.jny++[[]] }) 10 (by omega) (x:=.slice none 0 0) (by show _=((List.range k.jny.length).map (V 20)).length; simp) hown (z19 hg) hat ?_ ?_ ?_ ?_ ?_ (fun b hb=>by cases hb)
 ·intro j q
  unfold KKey;simp only[List.length_append,List.length_cons,List.length_nil];omega
 ·intro V j q hne hk
  unfold kcont;by_cases e:j=10
  ·subst e
   exfalso;rcases hk with ⟨-,-,e⟩ | e | e | e | e
   ·exact hne (by rw[e])
   all_goals omega
  ·simp only[if_neg e]
   rcases hk with ⟨h1,h2,-⟩ | ⟨e1,h1⟩ | ⟨e1,h1⟩ | ⟨e1,h1⟩ | ⟨e1,h1⟩
   ·have:j=3\/j=4\/j=5\/j=6\/j=7\/j=8\/j=9:=by omega
    rcases this with rfl | rfl | rfl | rfl | rfl | rfl | rfl <;> rfl
   ·subst e1; rfl
   ·subst e1; rfl
   ·subst e1; rfl
   ·subst e1
    show intsV ((k.jny++[[]]).getD q [])=intsV (k.jny.getD q []);rw[z5i _ _ _ h1]
 ·intro V' h1 h2
  show (List.range (k.jny++[[]]).length).map (V' 20)=(List.range k.jny.length).map (V 20)++[.slice none 0 0];rw[List.length_append];exact z5h (V 20) (V' 20) _ _ h1 h2
 ·intro hk
  rcases hk with e | e | e | e | e <;> omega
 ·have e:kcont { k with jny:=k.jny++[[]] } V (10+10) k.jny.length=[]:=by
   show intsV ((k.jny++[[]]).getD k.jny.length [])=[];rw[z5j]; rfl
  rw[e];exact World.ownsRow_nil _ _ _ _
theorem kpath_app {n:Nat} {w w2:World} {g T D Q:Nat} {k:KP} {V:Nat->Nat->Value} {o:Obj} (h:KM n w g T D Q k V) {g4 c4 m:Nat} (hm:m=k.path.length)
  (hown:w2.ownsRow n 49 1 (.slice (some ⟨g4,0,none⟩) (m+1) c4) (m+1) ((List.range k.path.length).map (V 16)++[.slice none 0 0])) (hg:(w.alloc o).grownBy w2 (V 6 0).ownBlock) (hat:(V 6 0).ownBlock=some g4\/w.heap.size<=g4) :
  KM n (w2.setCell ⟨g,6,none⟩ (.slice (some ⟨g4,0,none⟩) (m+1) c4)) g T D Q { k with path:=k.path++[[]] } (updV (updV V 16 m (.slice none 0 0)) 6 0 (.slice (some ⟨g4,0,none⟩) (m+1) c4)):=by
 subst hm;refine h.appR (k':={ k with path:=k.path++[[]] }) 6 (by omega) (x:=.slice none 0 0) (by show _=((List.range k.path.length).map (V 16)).length; simp) hown (z19 hg) hat ?_ ?_ ?_ ?_ ?_ (fun b hb=>by cases hb)
 ·intro j q
  unfold KKey;simp only[List.length_append,List.length_cons,List.length_nil];omega
 ·intro V j q hne hk
  rcases hk with ⟨h1,h2,e0⟩ | ⟨e1,h1⟩ | ⟨e1,h1⟩ | ⟨e1,h1⟩ | ⟨e1,h1⟩
  ·subst e0
   have:j=3\/j=4\/j=5\/j=6\/j=7\/j=8\/j=9\/j=10:=by omega
   rcases this with rfl | rfl | rfl | rfl | rfl | rfl | rfl | rfl
   ·rfl
   ·rfl
   ·rfl
   ·exact absurd rfl hne
   all_goals rfl
  ·subst e1
   show intsV ((k.path++[[]]).getD q [])=intsV (k.path.getD q []);rw[z5i _ _ _ h1]
  ·subst e1; rfl
  ·subst e1; rfl
  ·subst e1; rfl
 ·intro V' h1 h2
  show (List.range (k.path++[[]]).length).map (V' 16)=(List.range k.path.length).map (V 16)++[.slice none 0 0];rw[List.length_append];exact z5h (V 16) (V' 16) _ _ h1 h2
 ·intro hk
  rcases hk with e | e | e | e | e <;> omega
 ·have e:kcont { k with path:=k.path++[[]] } V (6+10) k.path.length=[]:=by
   show intsV ((k.path++[[]]).getD k.path.length [])=[];rw[z5j]; rfl
  rw[e];exact World.ownsRow_nil _ _ _ _
theorem kflank_app {n:Nat} {w w2:World} {g T D Q:Nat} {k:KP} {V:Nat->Nat->Value} {o:Obj} (h:KM n w g T D Q k V) {g4 c4 m:Nat} (hm:m=k.flank.length)
  (hown:w2.ownsRow n 49 1 (.slice (some ⟨g4,0,none⟩) (m+1) c4) (m+1) ((List.range k.flank.length).map (V 17)++[.slice none 0 0])) (hg:(w.alloc o).grownBy w2 (V 7 0).ownBlock) (hat:(V 7 0).ownBlock=some g4\/w.heap.size<=g4) :
  KM n (w2.setCell ⟨g,7,none⟩ (.slice (some ⟨g4,0,none⟩) (m+1) c4)) g T D Q { k with flank:=k.flank++[[]] } (updV (updV V 17 m (.slice none 0 0)) 7 0 (.slice (some ⟨g4,0,none⟩) (m+1) c4)):=by
 subst hm;refine h.appR (k':={ k with flank:=k.flank++[[]] }) 7 (by omega) (x:=.slice none 0 0) (by show _=((List.range k.flank.length).map (V 17)).length; simp) hown (z19 hg) hat ?_ ?_ ?_ ?_ ?_ (fun b hb=>by cases hb)
 ·intro j q
  unfold KKey;simp only[List.length_append,List.length_cons,List.length_nil];omega
 ·intro V j q hne hk
  rcases hk with ⟨h1,h2,e0⟩ | ⟨e1,h1⟩ | ⟨e1,h1⟩ | ⟨e1,h1⟩ | ⟨e1,h1⟩
  ·subst e0
   have:j=3\/j=4\/j=5\/j=6\/j=7\/j=8\/j=9\/j=10:=by omega
   rcases this with rfl | rfl | rfl | rfl | rfl | rfl | rfl | rfl
   ·rfl
   ·rfl
   ·rfl
   ·rfl
   ·exact absurd rfl hne
   all_goals rfl
  ·subst e1; rfl
  ·subst e1
   show intsV ((k.flank++[[]]).getD q [])=intsV (k.flank.getD q []);rw[z5i _ _ _ h1]
  ·subst e1; rfl
  ·subst e1; rfl
 ·intro V' h1 h2
  show (List.range (k.flank++[[]]).length).map (V' 17)=(List.range k.flank.length).map (V 17)++[.slice none 0 0];rw[List.length_append];exact z5h (V 17) (V' 17) _ _ h1 h2
 ·intro hk
  rcases hk with e | e | e | e | e <;> omega
 ·have e:kcont { k with flank:=k.flank++[[]] } V (7+10) k.flank.length=[]:=by
   show intsV ((k.flank++[[]]).getD k.flank.length [])=[];rw[z5j]; rfl
  rw[e];exact World.ownsRow_nil _ _ _ _
theorem kwant_app {n:Nat} {w w2:World} {g T D Q:Nat} {k:KP} {V:Nat->Nat->Value} (h:KM n w g T D Q k V) {g4 c4 m:Nat} {x:Value} {W:List Nat} (hm:m=k.want.length)
  (hown:w2.ownsRow n 74 1 (.slice (some ⟨g4,0,none⟩) (m+1) c4) (m+1) ((List.range k.want.length).map (V 18)++[x])) (ho:Only (fun b=>(V 8 0).ownBlock=some b) w w2) (hat:(V 8 0).ownBlock=some g4\/w.heap.size<=g4)
  (hxo:w2.ownsRow n 5 1 x W.length (bytsV W)) (hxb:∀b,x.ownBlock=some b->w.heap.size<=b/\b≠g4) :
  KM n (w2.setCell ⟨g,8,none⟩ (.slice (some ⟨g4,0,none⟩) (m+1) c4)) g T D Q { k with want:=k.want++[W] } (updV (updV V 18 m x) 8 0 (.slice (some ⟨g4,0,none⟩) (m+1) c4)):=by
 subst hm;refine h.appR (k':={ k with want:=k.want++[W] }) 8 (by omega) (x:=x) (by show _=((List.range k.want.length).map (V 18)).length; simp) hown ho hat ?_ ?_ ?_ ?_ ?_ hxb
 ·intro j q
  unfold KKey;simp only[List.length_append,List.length_cons,List.length_nil];omega
 ·intro V j q hne hk
  rcases hk with ⟨h1,h2,e0⟩ | ⟨e1,h1⟩ | ⟨e1,h1⟩ | ⟨e1,h1⟩ | ⟨e1,h1⟩
  ·subst e0
   have:j=3\/j=4\/j=5\/j=6\/j=7\/j=8\/j=9\/j=10:=by omega
   rcases this with rfl | rfl | rfl | rfl | rfl | rfl | rfl | rfl
   ·rfl
   ·rfl
   ·rfl
   ·rfl
   ·rfl
   ·exact absurd rfl hne
   all_goals rfl
  ·subst e1; rfl
  ·subst e1; rfl
  ·subst e1
   show bytsV ((k.want++[W]).getD q [])=bytsV (k.want.getD q []);rw[z5i _ _ _ h1]
  ·subst e1; rfl
 ·intro V' h1 h2
  show (List.range (k.want++[W]).length).map (V' 18)=(List.range k.want.length).map (V 18)++[x];rw[List.length_append];exact z5h (V 18) (V' 18) _ _ h1 h2
 ·intro hk
  rcases hk with e | e | e | e | e <;> omega
 ·have e:kcont { k with want:=k.want++[W] } V (8+10) k.want.length=bytsV W:=by
   show bytsV ((k.want++[W]).getD k.want.length [])=_;rw[z5j]
  rw[e];have e2:(bytsV W).length=W.length:=by simp[bytsV]
  rw[e2];exact hxo
theorem z1q {α:Type} (l:List α) (y:α):(z0w l y).length=l.length:=by simp[z0w]
theorem setLast_ne (l:List (List Nat)) (y:List Nat) (q:Nat) (h:q≠l.length - 1):(z0w l y).getD q []=l.getD q []:=by
 unfold z0w;rw[List.getD_eq_getElem?_getD,List.getD_eq_getElem?_getD,List.getElem?_set_ne (fun e=>h e.symm)]
theorem z52 (l:List (List Nat)) (y:List Nat) (h:0 < l.length):(z0w l y).getD (l.length - 1) []=y:=by
 unfold z0w;rw[List.getD_eq_getElem?_getD,List.getElem?_set_self (by omega)]; rfl
theorem kjny_leaf {n:Nat} {w w2:World} {g T D Q:Nat} {k:KP} {V:Nat->Nat->Value} {o:Obj} (h:KM n w g T D Q k V) {gp cp mp r g4 c4 m x:Nat} (hp:V 10 0=.slice (some ⟨gp,0,none⟩) mp cp) (hmp:mp=k.jny.length) (hr:r+1=mp) (hm:m=(z0e k.jny).length)
  (hown:w2.ownsRow n 3 1 (.slice (some ⟨g4,0,none⟩) (m+1) c4) (m+1) (intsV (z0e k.jny)++[.int .i64 x])) (hg:(w.alloc o).grownBy w2 (V 20 r).ownBlock) (hat:(V 20 r).ownBlock=some g4\/w.heap.size<=g4) :
  KM n (w2.setCell ⟨gp,r,none⟩ (.slice (some ⟨g4,0,none⟩) (m+1) c4)) g T D Q { k with jny:=z0w k.jny (z0e k.jny++[x]) } (updV V 20 r (.slice (some ⟨g4,0,none⟩) (m+1) c4)):=by
 subst hmp;have er:r=k.jny.length - 1:=by omega
 have e20:∀V,kcont k V 20 r=intsV (z0e k.jny):=fun V=>by rw[er]; rfl
 refine h.leaf (k':={ k with jny:=z0w k.jny (z0e k.jny++[x]) }) 10 (by omega) (x:=.int .i64 x) hp (by show ((List.range k.jny.length).map (V 20)).length=_; simp) (.inr (.inr (.inr (.inr ⟨rfl,by omega⟩)))) (by omega) (fun V=>rfl) (by rw[e20,hm]; simp[intsV]) (by rw[e20]; exact hown) hg hat ?_ ?_ ?_
 ·intro j q
  unfold KKey;simp only[z1q]
 ·intro V j q hne hk
  rcases hk with ⟨h1,h2,e0⟩ | ⟨e1,h1⟩ | ⟨e1,h1⟩ | ⟨e1,h1⟩ | ⟨e1,h1⟩
  ·subst e0
   have:j=3\/j=4\/j=5\/j=6\/j=7\/j=8\/j=9\/j=10:=by omega
   rcases this with rfl | rfl | rfl | rfl | rfl | rfl | rfl | rfl
   all_goals first
    | rfl
    | (show (List.range (z0w k.jny (z0e k.jny++[x])).length).map (V 20)=(List.range k.jny.length).map (V 20); rw[z1q])
  ·subst e1; rfl
  ·subst e1; rfl
  ·subst e1; rfl
  ·subst e1
   show intsV ((z0w k.jny (z0e k.jny++[x])).getD q [])=intsV (k.jny.getD q []);rw[setLast_ne _ _ _ (fun e=>hne (by rw[e,er]))]
 ·intro V
  rw[e20];show intsV ((z0w k.jny (z0e k.jny++[x])).getD r [])=_;rw[er,z52 _ _ (by omega),z0x]
theorem kpath_leaf {n:Nat} {w w2:World} {g T D Q:Nat} {k:KP} {V:Nat->Nat->Value} {o:Obj} (h:KM n w g T D Q k V) {gp cp mp r g4 c4 m x:Nat} (hp:V 6 0=.slice (some ⟨gp,0,none⟩) mp cp) (hmp:mp=k.path.length) (hr:r+1=mp) (hm:m=(z0e k.path).length)
  (hown:w2.ownsRow n 3 1 (.slice (some ⟨g4,0,none⟩) (m+1) c4) (m+1) (intsV (z0e k.path)++[.int .i64 x])) (hg:(w.alloc o).grownBy w2 (V 16 r).ownBlock) (hat:(V 16 r).ownBlock=some g4\/w.heap.size<=g4) :
  KM n (w2.setCell ⟨gp,r,none⟩ (.slice (some ⟨g4,0,none⟩) (m+1) c4)) g T D Q { k with path:=z0w k.path (z0e k.path++[x]) } (updV V 16 r (.slice (some ⟨g4,0,none⟩) (m+1) c4)):=by
 subst hmp;have er:r=k.path.length - 1:=by omega
 have e20:∀V,kcont k V 16 r=intsV (z0e k.path):=fun V=>by rw[er]; rfl
 refine h.leaf (k':={ k with path:=z0w k.path (z0e k.path++[x]) }) 6 (by omega) (x:=.int .i64 x) hp (by show ((List.range k.path.length).map (V 16)).length=_; simp) (.inr (.inl ⟨rfl,by omega⟩)) (by omega) (fun V=>rfl) (by rw[e20,hm]; simp[intsV]) (by rw[e20]; exact hown) hg hat ?_ ?_ ?_
 ·intro j q
  unfold KKey;simp only[z1q]
 ·intro V j q hne hk
  rcases hk with ⟨h1,h2,e0⟩ | ⟨e1,h1⟩ | ⟨e1,h1⟩ | ⟨e1,h1⟩ | ⟨e1,h1⟩
  ·subst e0
   have:j=3\/j=4\/j=5\/j=6\/j=7\/j=8\/j=9\/j=10:=by omega
   rcases this with rfl | rfl | rfl | rfl | rfl | rfl | rfl | rfl
   all_goals first
    | rfl
    | (show (List.range (z0w k.path (z0e k.path++[x])).length).map (V 16)=(List.range k.path.length).map (V 16); rw[z1q])
  ·subst e1
   show intsV ((z0w k.path (z0e k.path++[x])).getD q [])=intsV (k.path.getD q []);rw[setLast_ne _ _ _ (fun e=>hne (by rw[e,er]))]
  ·subst e1; rfl
  ·subst e1; rfl
  ·subst e1; rfl
 ·intro V
  rw[e20];show intsV ((z0w k.path (z0e k.path++[x])).getD r [])=_;rw[er,z52 _ _ (by omega),z0x]
theorem kflank_leaf {n:Nat} {w w2:World} {g T D Q:Nat} {k:KP} {V:Nat->Nat->Value} {o:Obj} (h:KM n w g T D Q k V) {gp cp mp r g4 c4 m x:Nat} (hp:V 7 0=.slice (some ⟨gp,0,none⟩) mp cp) (hmp:mp=k.flank.length) (hr:r+1=mp) (hm:m=(z0e k.flank).length)
  (hown:w2.ownsRow n 3 1 (.slice (some ⟨g4,0,none⟩) (m+1) c4) (m+1) (intsV (z0e k.flank)++[.int .i64 x])) (hg:(w.alloc o).grownBy w2 (V 17 r).ownBlock) (hat:(V 17 r).ownBlock=some g4\/w.heap.size<=g4) :
  KM n (w2.setCell ⟨gp,r,none⟩ (.slice (some ⟨g4,0,none⟩) (m+1) c4)) g T D Q { k with flank:=z0w k.flank (z0e k.flank++[x]) } (updV V 17 r (.slice (some ⟨g4,0,none⟩) (m+1) c4)):=by
 subst hmp;have er:r=k.flank.length - 1:=by omega
 have e20:∀V,kcont k V 17 r=intsV (z0e k.flank):=fun V=>by rw[er]; rfl
 refine h.leaf (k':={ k with flank:=z0w k.flank (z0e k.flank++[x]) }) 7 (by omega) (x:=.int .i64 x) hp (by show ((List.range k.flank.length).map (V 17)).length=_; simp) (.inr (.inr (.inl ⟨rfl,by omega⟩))) (by omega) (fun V=>rfl) (by rw[e20,hm]; simp[intsV]) (by rw[e20]; exact hown) hg hat ?_ ?_ ?_
 ·intro j q
  unfold KKey;simp only[z1q]
 ·intro V j q hne hk
  rcases hk with ⟨h1,h2,e0⟩ | ⟨e1,h1⟩ | ⟨e1,h1⟩ | ⟨e1,h1⟩ | ⟨e1,h1⟩
  ·subst e0
   have:j=3\/j=4\/j=5\/j=6\/j=7\/j=8\/j=9\/j=10:=by omega
   rcases this with rfl | rfl | rfl | rfl | rfl | rfl | rfl | rfl
   all_goals first
    | rfl
    | (show (List.range (z0w k.flank (z0e k.flank++[x])).length).map (V 17)=(List.range k.flank.length).map (V 17); rw[z1q])
  ·subst e1; rfl
  ·subst e1
   show intsV ((z0w k.flank (z0e k.flank++[x])).getD q [])=intsV (k.flank.getD q []);rw[setLast_ne _ _ _ (fun e=>hne (by rw[e,er]))]
  ·subst e1; rfl
  ·subst e1; rfl
 ·intro V
  rw[e20];show intsV ((z0w k.flank (z0e k.flank++[x])).getD r [])=_;rw[er,z52 _ _ (by omega),z0x]
theorem KM.topI {n:Nat} {w:World} {g T D Q:Nat} {k:KP} {V:Nat->Nat->Value} (h:KM n w g T D Q k V) (i:Nat) (hi:i=4\/i=5\/i=9) (l:List Nat) (hl:kcont k V i 0=intsV l):∃a e,V i 0=.slice a l.length e/\w.ownsRow n 3 1 (.slice a l.length e) l.length (intsV l):=by
 have:=h.own i 0 (z0u k i (by omega));have hz:(intsV l).length=l.length:=by simp[intsV]
 have ht:ktyp i=3:=by rcases hi with rfl | rfl | rfl <;> rfl
 rw[hl,hz,ht] at this;obtain⟨a,e,hv⟩:=z02 this;rw[hv] at this;exact⟨a,e,hv,this⟩
theorem KM.topR {n:Nat} {w:World} {g T D Q:Nat} {k:KP} {V:Nat->Nat->Value} (h:KM n w g T D Q k V) (i m:Nat) (hi:3<=i/\i<=10) (hl:(kcont k V i 0).length=m):∃a e,V i 0=.slice a m e/\w.ownsRow n (ktyp i) 1 (.slice a m e) m (kcont k V i 0):=by
 have:=h.own i 0 (z0u k i hi);rw[hl] at this;obtain⟨a,e,hv⟩:=z02 this;rw[hv] at this;exact⟨a,e,hv,this⟩
set_option maxRecDepth 100000 in
set_option maxHeartbeats 4000000 in
theorem ktrain_any (n g T D Q:Nat) (k:KP) (V:Nat->Nat->Value) (c:Nat) (fr:Bool) (w:World) (h:KM n w g T D Q k V) (hl:k.stand.length<=1000) (hp:k.jny.length<=1000) (hp2:(z0e k.jny).length<=1000) (hc:c < 256) (h97:fr=true->97<=c) (h65:fr=false->0 < k.jny.length/\65<=c) :
  Calls Tryz.prog 63 #[.pointer (some ⟨g,0,none⟩),.int .u8 c,.bool fr] w fun e w'=>e=.returned (.tuple #[])/\(∃V',KM n w' g T D Q (k.train c fr) V')/\Below n w w':=by
 obtain⟨i0,hi0⟩:=info_parts Tryz.infoInt;have HI:=zh hi0;obtain⟨i1,hi1⟩:=info_parts Tryz.infoInts;have HJ:=zh hi1;have hn:=h.nw;have HK:=zh h;clear hi0 hi1;cases fr with
 | true=>
  have h97':=h97 rfl;obtain⟨x,hx⟩:∃x,x=c - 97:=⟨_,rfl⟩
  have hcx:(c:Int) - 97=((x:Nat):Int):=by omega
  have hwx:IntKind.i64.wrap ((c:Int) - 97)=((x:Nat):Int):=by rw[Go.IntWalk.i64_in _ (by omega)]; exact hcx
  have htr:k.train c true={ k with stand:=k.stand++[x],jny:=k.jny++[[]] }:=by unfold KP.train; rw[if_pos rfl,hx]
  rw[htr];obtain⟨kz,hkz⟩:∃kz:KP,kz={ k with stand:=k.stand++[x],jny:=k.jny++[[]] }:=⟨_,rfl⟩
  rw[<-hkz];have HKZ:=zh hkz;clear hkz;obtain⟨a9,e9,hv9,ho9⟩:=h.topI 9 (by omega) k.stand rfl;have HO9:=zh ho9;have HV9:=zh hv9;obtain⟨⟨c3,c4,c5,c6,c7,c8,c9,c10⟩,⟨f3,f4,f5,f6,f7,f8,f9,f10⟩,hgz⟩:=h.box;rw[hv9] at c9;obtain⟨ns,hns⟩:∃m,m=k.stand.length:=⟨_,rfl⟩
  rw[<-hns] at HO9 HV9 c9 hl;have HNS:=zh hns;clear h hv9 ho9 c3 c4 c5 c6 c7 c8 c10 f3 f4 f5 f6 f7 f8 f10 hns hx htr h65 h97;go_enter Tryz.func63,Tryz.ntmps63
  go_upto_region 2 with (at_builtin; refine wpList_append_lies _ rfl _ _ 49 rfl n 3 i0 (.int .i64 0) 1 8 Tryz.underlying49 (uh HI).1 (uh HI).2.1 (uh HI).2.2.1 (uh HI).2.2.2 rfl (by decide) (.slice a9 ns e9) ns (intsV k.stand) rfl (World.ownsRow.alloc (uh HO9) _) ⟨w.heap.size,0,none⟩ 1 1 [.int .i64 (x:Nat)] rfl rfl (z0q _ _ _) (z0a rfl) (by decide) (by unfold maxLen; omega) (by omega) (by simp; omega) _ rfl ?_; intro g4 d4 w4 hown4 hgrow4 hat4 hlt4; have hb4:=(uh HK).cell_grown (z0u _ 9 (by omega)) (by rw[uh HV9]; exact hgrow4); obtain⟨⟨-,-,-,-,-,-,r9,r10⟩,⟨-,-,-,-,-,-,z9,z10⟩,hgz4⟩:=z1o hb4)
  have hK1:=kstand_app (uh HK) (m:=ns) (x:=x) (uh HNS) hown4 (by rw[uh HV9]; exact hgrow4) (hat4.imp (fun e=>by rw[uh HV9]; exact e) (fun e=>by rw[e]; simp));have hB1:=z0m (j:=9) ((uh HK).below_grown (z0u k 9 (by omega)) (by rw[uh HV9]; exact hgrow4) hn) (uh HK).ng (.slice (some ⟨g4,0,none⟩) (ns+1) d4);clear c9 f9 hgz r9 r10 z9 z10 hgz4 hb4 hgrow4 hown4 hat4 hlt4 HO9;generalize w4.setCell ⟨g,9,none⟩ (.slice (some ⟨g4,0,none⟩) (ns+1) d4)=W1 at *;generalize updV V 9 0 (.slice (some ⟨g4,0,none⟩) (ns+1) d4)=V1 at *;obtain⟨k1,hk1⟩:∃k1:KP,k1={ k with stand:=k.stand++[x] }:=⟨_,rfl⟩
  rw[<-hk1] at hK1;have hj1:k1.jny=k.jny:=by rw[hk1]
  have HKK:=zh (show kz={ k1 with jny:=k1.jny++[[]] } by rw[uh HKZ,hk1]);have hl1:(kcont k1 V1 10 0).length=k1.jny.length:=by show ((List.range k1.jny.length).map (V1 20)).length=_; simp
  obtain⟨a10,e10,hv10,ho10⟩:=hK1.topR 10 k1.jny.length (by omega) hl1;have HO10:=zh (show W1.ownsRow n 49 1 (.slice a10 k1.jny.length e10) k1.jny.length ((List.range k1.jny.length).map (V1 20)) from ho10);obtain⟨⟨-,-,-,-,-,-,-,s10⟩,⟨-,-,-,-,-,-,-,y10⟩,hgz⟩:=hK1.box;rw[hv10] at s10;have HV10:=zh hv10;have HK1:=zh hK1;have HB1:=zh hB1;have hn1:=hK1.nw;rw[<-hj1] at hp;obtain⟨nj,hnj⟩:∃m,m=k1.jny.length:=⟨_,rfl⟩
  rw[<-hnj] at s10 HV10 hp;have HNJ:=zh hnj;have HO10':=zh (show W1.ownsRow n 49 1 (.slice a10 nj e10) nj ((List.range k1.jny.length).map (V1 20)) by rw[hnj]; exact uh HO10);clear hK1 hB1 hv10 ho10 hl1 hj1 hnj HO10;go_wp2_with (at_builtin; refine wpList_append_lies _ rfl _ _ 50 rfl n 49 i1 (.slice none 0 0) 1 24 Tryz.underlying50 (uh HJ).1 (uh HJ).2.1 (uh HJ).2.2.1 (uh HJ).2.2.2 rfl (by decide) (.slice a10 nj e10) nj ((List.range k1.jny.length).map (V1 20)) rfl (World.ownsRow.alloc (uh HO10') _) ⟨W1.heap.size,0,none⟩ 1 1 [.slice none 0 0] rfl rfl (z0q _ _ _) (z0a rfl) (by decide) (by unfold maxLen; omega) (by omega) (by simp; omega) _ rfl ?_; intro g5 d5 w5 hown5 hgrow5 hat5 hlt5; have hb5:=(uh HK1).cell_grown (z0u _ 10 (by omega)) (by rw[uh HV10]; exact hgrow5); obtain⟨⟨-,-,-,-,-,-,-,r10⟩,⟨-,-,-,-,-,-,-,z10⟩,hgz5⟩:=z1o hb5)
  refine bodyPost_ret (v:=.tuple #[]) (by simp[results,Tryz.results63,go_sem]) rfl ?_;rw[uh HKK];refine⟨rfl,⟨_,kjny_app (uh HK1) (m:=nj) (uh HNJ) hown5 (by rw[uh HV10]; exact hgrow5) (hat5.imp (fun e=>by rw[uh HV10]; exact e) (fun e=>by rw[e]; simp))⟩,?_⟩;exact z0m ((uh HB1).trans ((uh HK1).below_grown (z0u _ 10 (by omega)) (by rw[uh HV10]; exact hgrow5) hn1)) (uh HK1).ng _
 | false=>
  obtain⟨hj0,h65'⟩:=h65 rfl;obtain⟨x,hx⟩:∃x,x=c - 65:=⟨_,rfl⟩
  have hcx:(c:Int) - 65=((x:Nat):Int):=by omega
  have hwx:IntKind.i64.wrap ((c:Int) - 65)=((x:Nat):Int):=by rw[Go.IntWalk.i64_in _ (by omega)]; exact hcx
  have htr:k.train c false={ k with jny:=z0w k.jny (z0e k.jny++[x]) }:=by unfold KP.train; rw[if_neg (by simp),hx]
  rw[htr];have hl1:(kcont k V 10 0).length=k.jny.length:=by show ((List.range k.jny.length).map (V 20)).length=_; simp
  obtain⟨a10,e10,hv10,ho10⟩:=h.topR 10 k.jny.length (by omega) hl1;obtain⟨gp,cp,hgp,-,hgpz⟩:=ho10.form hj0;simp only[Value.slice.injEq] at hgp;obtain⟨rfl,-,rfl⟩:=hgp;obtain⟨r,hr⟩:∃r,r+1=k.jny.length:=⟨k.jny.length - 1,by omega⟩
  have er:r=k.jny.length - 1:=by omega
  have hkr:KKey k 20 r:=.inr (.inr (.inr (.inr ⟨rfl,by omega⟩)));have e20:kcont k V 20 r=intsV (z0e k.jny):=by rw[er]; rfl
  have hor:=h.own 20 r hkr;have ez:(intsV (z0e k.jny)).length=(z0e k.jny).length:=by simp[intsV]
  rw[e20,ez] at hor;obtain⟨ar,er2,hvr⟩:=z02 hor;rw[hvr] at hor;have HOR:=zh (show w.ownsRow n 3 1 (.slice ar (z0e k.jny).length er2) (z0e k.jny).length (intsV (z0e k.jny)) from hor);have xr:w.cell? ⟨gp,r,none⟩=some (.slice ar (z0e k.jny).length er2):=by
   rw[ho10.cellAt r (by omega)];show ((List.range k.jny.length).map (V 20))[r]?=_;rw[List.getElem?_map,List.getElem?_range (by omega)];show some (V 20 r)=_;rw[hvr]
  have zr:=ho10.frozenAt r;obtain⟨⟨-,-,-,-,-,-,-,c10⟩,-,hgz⟩:=h.box;rw[hv10] at c10;have HVR:=zh hvr;have HV10:=zh hv10;obtain⟨nr,hnr⟩:∃m,m=(z0e k.jny).length:=⟨_,rfl⟩
  rw[<-hnr] at HOR xr hp2 HVR;have HNR:=zh hnr;obtain⟨nj,hnj⟩:∃m,m=k.jny.length:=⟨_,rfl⟩
  rw[<-hnj] at c10 hp hr HV10;have HNJ:=zh hnj;have hri:((nj:Int) - 1)=r:=by omega
  have hrw:IntKind.i64.wrap ((nj:Int) - 1)=((r:Nat):Int):=by rw[Go.IntWalk.i64_in _ (by omega)]; exact hri
  have l0:(0:Int)<=r:=by omega
  have l1:(r:Int) < nj:=by omega
  have HKR:=zh hkr;have hgpg:gp≠g:=fun e=>h.far (z0u k 10 (by omega)) (by rw[uh HV10,e]; rfl);have HC20:=zh (show ∀b,(V 20 r).ownBlock=some b->b≠gp from fun b hb e=>h.ap 20 r 10 0 hkr (z0u k 10 (by omega)) (by simp) b hb (by rw[uh HV10,e]; rfl));clear h hv10 ho10 hl1 hor hvr hkr e20 er ez hnr hnj htr hx h97 h65 hj0;go_enter Tryz.func63,Tryz.ntmps63
  go_wp2
  have hw0:IntKind.i64.wrap (c:Int)=c:=Go.IntWalk.i64_in _ (by omega);clear hcx;go_region_law (refine step_append_lies _ rfl (.tmp 46) (.tmp 50) 49 rfl n 3 i0 (.int .i64 0) 1 8 Tryz.underlying49 (uh HI).1 (uh HI).2.1 (uh HI).2.2.1 (uh HI).2.2.2 rfl (by decide) (.slice ar nr er2) nr (intsV (z0e k.jny)) (by simp[Act.eval]) (World.ownsRow.drew (World.ownsRow.alloc (uh HOR) _)) ⟨w.heap.size,0,none⟩ 1 1 [.int .i64 (x:Nat)] (by simp[Act.eval]) rfl (z29 _ _ _) (z0a rfl) (by decide) (by unfold maxLen; omega) (by omega) (by simp; omega) _ rfl ?_; intro g4 d4 w4 hown4 hgrow4 hat4 hlt4; have hg4:=z20 hgrow4; have hb4:=(uh HK).cell_grown (uh HKR) (by rw[uh HVR]; exact hg4); obtain⟨⟨-,-,-,-,-,-,-,r10⟩,⟨-,-,-,-,-,-,-,z10⟩,hgz4⟩:=z1o hb4; rw[uh HV10] at r10; have hbp:=(z19 hg4).block gp hgpz (fun e=>uh HC20 gp (by rw[uh HVR]; exact e) rfl); have xr4:w4.cell? ⟨gp,r,none⟩=some (.slice ar nr er2):=(World.cell?_of_block (a:=⟨gp,r,none⟩) hbp).trans xr; have zr4:w4.frozen? ⟨gp,r,none⟩=false:=(World.frozen?_of_block (a:=⟨gp,r,none⟩) hbp).trans zr)
  all_goals
   go_wp2
   refine bodyPost_end (v:=.tuple #[]) (by simp[results,Tryz.results63,go_sem]) rfl ?_;refine⟨rfl,⟨_,kjny_leaf (uh HK) (m:=nr) (uh HV10) (uh HNJ) hr (uh HNR) hown4 (by rw[uh HVR]; exact hg4) (hat4.imp (fun e=>by rw[uh HVR]; exact e) (fun e=>by rw[e]; simp))⟩,?_⟩;exact z0m ((uh HK).below_grown (uh HKR) (by rw[uh HVR]; exact hg4) hn) ((uh HK).lt (z0u k 10 (by omega)) (by rw[uh HV10]; rfl)).1 _
theorem byts_made {w:World} {n m:Nat} (hn:n<=w.heap.size) (hm:m<=maxLen):(w.alloc (.cells (madeCells #[Value.int .u8 0] m) 5)).ownsRow n 5 1 (.slice (some ⟨w.heap.size,0,none⟩) m m) (List.replicate m 0).length (bytsV (List.replicate m 0)):=by
 have h:=World.ownsRow_lit (e:=5) (size:=1) (base:=n) w (madeCells #[Value.int .u8 0] m) m hn hm (by
  have e:=congrArg List.length (toList_madeCells_one (Value.int .u8 0) m)
  simpa using e)
 have e:(madeCells #[Value.int .u8 0] m).toList=bytsV (List.replicate m 0):=by
  rw[toList_madeCells_one];simp[bytsV]
 rw[e] at h
 simpa using h
theorem Only.belowK {F:Nat->Prop} {w w':World} {n:Nat} (h:Only F w w') (hF:∀b,F b->n<=b) (hn:n<=w.heap.size):Below n w w':=
 ⟨h.os,h.tape,h.output,h.size,fun k hk=>h.block k (by omega) (fun hf=>by have:=hF k hf; omega)⟩
set_option maxRecDepth 100000 in
set_option maxHeartbeats 8000000 in
theorem kroute_fresh (n g T D Q:Nat) (k:KP) (V:Nat->Nat->Value) (c b:Nat) (bs:Bool) (w:World) (h:KM n w g T D Q k V) (hl:k.foot.length<=1000) (hp:k.path.length=k.foot.length) (hf:k.flank.length=k.foot.length) (hw:k.want.length=k.foot.length) (hh:k.has.length<=1000) (hc:c < 256) (h97:97<=c) :
  Calls Tryz.prog 62 #[.pointer (some ⟨g,0,none⟩),.int .u8 c,.int .u8 b,.bool true,.bool bs] w fun e w'=>e=.returned (.tuple #[])/\(∃V',KM n w' g T D Q (k.opn (c - 97) [] [] (List.replicate k.has.length 0)) V')/\Below n w w':=by
 obtain⟨i0,hi0⟩:=info_parts Tryz.infoInt;have HI:=zh hi0;obtain⟨i1,hi1⟩:=info_parts Tryz.infoInts;have HJ:=zh hi1;obtain⟨i2,hi2⟩:=info_parts Tryz.infoByts;have HY:=zh hi2;obtain⟨i3,hi3⟩:=info_parts Tryz.infoByte;have hn:=h.nw;have HK:=zh h;obtain⟨nh,hnh⟩:∃m,m=k.has.length:=⟨_,rfl⟩
 have hmk:=fun (wz:World)=>run_make (P:=Tryz.prog) wz 74 5 i3 (.int .u8 0) Tryz.underlying74 hi3.1 hi3.2.1 .i64 .i64 (nh:Int) (nh:Int) (by omega) (by omega) (by rw[hi3.2.2.2]; omega) (by omega);rw[hi3.2.2.1] at hmk;simp only[Int.toNat_natCast,Nat.mul_one] at hmk;have HMK:=zh hmk;clear hi0 hi1 hi2 hi3 hmk;obtain⟨x,hx⟩:∃x,x=c - 97:=⟨_,rfl⟩
 have hwx:IntKind.i64.wrap ((c:Int) - 97)=((x:Nat):Int):=by rw[Go.IntWalk.i64_in _ (by omega)]; omega
 have hcx:(c:Int) - 97=((x:Nat):Int):=by omega
 obtain⟨kz,hkz⟩:∃kz:KP,kz=k.opn (c - 97) [] [] (List.replicate k.has.length 0):=⟨_,rfl⟩
 rw[<-hkz];have HKZ:=zh hkz;have HX:=zh hx;obtain⟨a5,e5,hv5,ho5⟩:=h.topI 5 (by omega) k.foot rfl;have HO5:=zh ho5;have HV5:=zh hv5;obtain⟨⟨c3,c4,c5,c6,c7,c8,c9,c10⟩,⟨f3,f4,f5,f6,f7,f8,f9,f10⟩,hgz⟩:=h.box;rw[hv5] at c5;obtain⟨nf,hnf⟩:∃m,m=k.foot.length:=⟨_,rfl⟩
 rw[<-hnf] at HO5 HV5 c5 hl hp hf hw;rw[<-hnh] at hh;have HNF:=zh hnf;have HNH:=zh hnh;have HPF:=zh (And.intro hp (And.intro hf hw));clear h hv5 ho5 c3 c4 c6 c7 c8 c9 c10 f3 f4 f6 f7 f8 f9 f10 hnf hx hkz hnh hp hf hw;go_enter Tryz.func62,Tryz.ntmps62
 go_upto_region 3 with (at_builtin; refine wpList_append_lies _ rfl _ _ 49 rfl n 3 i0 (.int .i64 0) 1 8 Tryz.underlying49 (uh HI).1 (uh HI).2.1 (uh HI).2.2.1 (uh HI).2.2.2 rfl (by decide) (.slice a5 nf e5) nf (intsV k.foot) rfl (World.ownsRow.alloc (uh HO5) _) ⟨w.heap.size,0,none⟩ 1 1 [.int .i64 (x:Nat)] rfl rfl (z0q _ _ _) (z0a rfl) (by decide) (by unfold maxLen; omega) (by omega) (by simp; omega) _ rfl ?_; intro g4 d4 w4 hown4 hgrow4 hat4 hlt4; have hb4:=(uh HK).cell_grown (z0u _ 5 (by omega)) (by rw[uh HV5]; exact hgrow4); obtain⟨⟨-,-,r5,-⟩,⟨-,-,z5,-⟩,hgz4⟩:=z1o hb4)
 have hK1:=kfoot_app (uh HK) (m:=nf) (x:=x) (uh HNF) hown4 (by rw[uh HV5]; exact hgrow4) (hat4.imp (fun e=>by rw[uh HV5]; exact e) (fun e=>by rw[e]; simp));have hB1:=z0m (j:=5) ((uh HK).below_grown (z0u k 5 (by omega)) (by rw[uh HV5]; exact hgrow4) hn) (uh HK).ng (.slice (some ⟨g4,0,none⟩) (nf+1) d4);clear c5 f5 hgz r5 z5 hgz4 hb4 hgrow4 hown4 hat4 hlt4 HO5;generalize w4.setCell ⟨g,5,none⟩ (.slice (some ⟨g4,0,none⟩) (nf+1) d4)=W1 at *;generalize updV V 5 0 (.slice (some ⟨g4,0,none⟩) (nf+1) d4)=V1 at *;obtain⟨k1,hk1⟩:∃k1:KP,k1={ k with foot:=k.foot++[x] }:=⟨_,rfl⟩
 rw[<-hk1] at hK1;have hl1:(kcont k1 V1 6 0).length=nf:=by show ((List.range k1.path.length).map (V1 16)).length=_; rw[hk1]; simp; exact(uh HPF).1
 obtain⟨a6,e6,hv6,ho6⟩:=hK1.topR 6 nf (by omega) hl1;have HO6:=zh (show W1.ownsRow n 49 1 (.slice a6 nf e6) nf ((List.range k1.path.length).map (V1 16)) from ho6);obtain⟨⟨-,-,-,s6,-⟩,⟨-,-,-,y6,-⟩,hgz⟩:=hK1.box;rw[hv6] at s6;have HV6:=zh hv6;have HK1:=zh hK1;have HB1:=zh hB1;have HE1:=zh hk1;have hn1:=hK1.nw;clear hK1 hB1 hv6 ho6 hl1 hk1;go_upto_region 4 with (at_builtin; refine wpList_append_lies _ rfl _ _ 50 rfl n 49 i1 (.slice none 0 0) 1 24 Tryz.underlying50 (uh HJ).1 (uh HJ).2.1 (uh HJ).2.2.1 (uh HJ).2.2.2 rfl (by decide) (.slice a6 nf e6) nf ((List.range k1.path.length).map (V1 16)) rfl (World.ownsRow.alloc (uh HO6) _) ⟨W1.heap.size,0,none⟩ 1 1 [.slice none 0 0] rfl rfl (z0q _ _ _) (z0a rfl) (by decide) (by unfold maxLen; omega) (by omega) (by simp; omega) _ rfl ?_; intro g5 d5 w5 hown5 hgrow5 hat5 hlt5; have hb5:=(uh HK1).cell_grown (z0u _ 6 (by omega)) (by rw[uh HV6]; exact hgrow5); obtain⟨⟨-,-,-,r6,-⟩,⟨-,-,-,z6,-⟩,hgz5⟩:=z1o hb5)
 have hK2:=kpath_app (uh HK1) (m:=nf) (by rw[uh HE1]; exact(uh HPF).1.symm) hown5 (by rw[uh HV6]; exact hgrow5) (hat5.imp (fun e=>by rw[uh HV6]; exact e) (fun e=>by rw[e]; simp));have hB2:=z0m (j:=6) ((uh HB1).trans ((uh HK1).below_grown (z0u _ 6 (by omega)) (by rw[uh HV6]; exact hgrow5) hn1)) (uh HK1).ng (.slice (some ⟨g5,0,none⟩) (nf+1) d5);clear s6 y6 hgz r6 z6 hgz5 hb5 hgrow5 hown5 hat5 hlt5 HO6;generalize w5.setCell ⟨g,6,none⟩ (.slice (some ⟨g5,0,none⟩) (nf+1) d5)=W2 at *;generalize updV (updV V1 16 nf (.slice none 0 0)) 6 0 (.slice (some ⟨g5,0,none⟩) (nf+1) d5)=V2 at *;obtain⟨k2,hk2⟩:∃k2:KP,k2={ k1 with path:=k1.path++[[]] }:=⟨_,rfl⟩
 rw[<-hk2] at hK2;have hl2:(kcont k2 V2 7 0).length=nf:=by show ((List.range k2.flank.length).map (V2 17)).length=_; rw[hk2,uh HE1]; simp; exact(uh HPF).2.1
 obtain⟨a7,e7,hv7,ho7⟩:=hK2.topR 7 nf (by omega) hl2;have HO7:=zh (show W2.ownsRow n 49 1 (.slice a7 nf e7) nf ((List.range k2.flank.length).map (V2 17)) from ho7);obtain⟨⟨-,-,-,-,s7,-⟩,⟨-,-,-,-,y7,-⟩,hgz⟩:=hK2.box;rw[hv7] at s7;have HV7:=zh hv7;have HK2:=zh hK2;have HB2:=zh hB2;have HE2:=zh hk2;have hn2:=hK2.nw;clear hK2 hB2 hv7 ho7 hl2 hk2 HK1 HB1 hn1 HV6;go_upto_region 5 with (at_builtin; refine wpList_append_lies _ rfl _ _ 50 rfl n 49 i1 (.slice none 0 0) 1 24 Tryz.underlying50 (uh HJ).1 (uh HJ).2.1 (uh HJ).2.2.1 (uh HJ).2.2.2 rfl (by decide) (.slice a7 nf e7) nf ((List.range k2.flank.length).map (V2 17)) rfl (World.ownsRow.alloc (uh HO7) _) ⟨W2.heap.size,0,none⟩ 1 1 [.slice none 0 0] rfl rfl (z0q _ _ _) (z0a rfl) (by decide) (by unfold maxLen; omega) (by omega) (by simp; omega) _ rfl ?_; intro g6 d6 w6 hown6 hgrow6 hat6 hlt6; have hb6:=(uh HK2).cell_grown (z0u _ 7 (by omega)) (by rw[uh HV7]; exact hgrow6); obtain⟨⟨-,-,-,-,r7,-⟩,⟨-,-,-,-,z7,-⟩,hgz6⟩:=z1o hb6)
 have hK3:=kflank_app (uh HK2) (m:=nf) (by rw[uh HE2,uh HE1]; exact(uh HPF).2.1.symm) hown6 (by rw[uh HV7]; exact hgrow6) (hat6.imp (fun e=>by rw[uh HV7]; exact e) (fun e=>by rw[e]; simp));have hB3:=z0m (j:=7) ((uh HB2).trans ((uh HK2).below_grown (z0u _ 7 (by omega)) (by rw[uh HV7]; exact hgrow6) hn2)) (uh HK2).ng (.slice (some ⟨g6,0,none⟩) (nf+1) d6);clear s7 y7 hgz r7 z7 hgz6 hb6 hgrow6 hown6 hat6 hlt6 HO7;generalize w6.setCell ⟨g,7,none⟩ (.slice (some ⟨g6,0,none⟩) (nf+1) d6)=W3 at *;generalize updV (updV V2 17 nf (.slice none 0 0)) 7 0 (.slice (some ⟨g6,0,none⟩) (nf+1) d6)=V3 at *;obtain⟨k3,hk3⟩:∃k3:KP,k3={ k2 with flank:=k2.flank++[[]] }:=⟨_,rfl⟩
 rw[<-hk3] at hK3;have hl3:(kcont k3 V3 8 0).length=nf:=by show ((List.range k3.want.length).map (V3 18)).length=_; rw[hk3,uh HE2,uh HE1]; simp; exact(uh HPF).2.2
 have hl4:(kcont k3 V3 3 0).length=nh:=by show (z17 k3.has).length=_; rw[hk3,uh HE2,uh HE1,uh HNH]; simp[z17]
 obtain⟨a8,e8,hv8,ho8⟩:=hK3.topR 8 nf (by omega) hl3;obtain⟨a3,e3,hv3,-⟩:=hK3.topR 3 nh (by omega) hl4;have HO8:=zh (show W3.ownsRow n 74 1 (.slice a8 nf e8) nf ((List.range k3.want.length).map (V3 18)) from ho8);obtain⟨⟨s3,-,-,-,-,s8,-⟩,⟨-,-,-,-,-,y8,-⟩,hgz⟩:=hK3.box;rw[hv8] at s8;rw[hv3] at s3;have HV8:=zh hv8;have HV3:=zh hv3;have HK3:=zh hK3;have HB3:=zh hB3;have HE3:=zh hk3;have hn3:=hK3.nw;clear hK3 hB3 hv8 hv3 ho8 hl3 hl4 hk3 HK2 HB2 hn2 HV7;have hmk:=uh HMK;go_wp2
 go_region_law (refine step_append_lies _ rfl (.tmp 53) (.tmp 60) 51 rfl n 74 i2 (.slice none 0 0) 1 24 Tryz.underlying51 (uh HY).1 (uh HY).2.1 (uh HY).2.2.1 (uh HY).2.2.2 rfl (by decide) (.slice a8 nf e8) nf ((List.range k3.want.length).map (V3 18)) (by simp[Act.eval]) (World.ownsRow.drew (World.ownsRow.alloc (World.ownsRow.alloc (uh HO8) _) _)) ⟨W3.heap.size+1,0,none⟩ 1 1 [.slice (some ⟨W3.heap.size,0,none⟩) nh nh] (by simp[Act.eval]) rfl (by exact z0t _ [.slice (some ⟨W3.heap.size,0,none⟩) nh nh] _ _ (by simp)) (z0a rfl) (by decide) (by unfold maxLen; omega) (by omega) (by simp; omega) _ rfl ?_; intro g7 d7 w7 hown7 hgrow7 hat7 hlt7; have hg7:=z20 hgrow7; have hO7:=(Only.of_below (F:=fun b=>(V3 8 0).ownBlock=some b) (z01 W3 _)).trans (show Only (fun b=>(V3 8 0).ownBlock=some b) _ w7 by rw[uh HV8]; exact z19 hg7); have hb7:=(hO7.block g hgz (fun e=>(uh HK3).far (z0u _ 8 (by omega)) e)).trans (uh HK3).cell; obtain⟨⟨q3,-,-,-,-,q8,-⟩,⟨-,-,-,-,-,z8,-⟩,hgz7⟩:=z1o hb7)
 all_goals
  have hkz:kz={ k3 with want:=k3.want++[List.replicate nh 0] }:=by
   rw[uh HKZ,uh HE3,uh HE2,uh HE1,uh HX,uh HNH];rfl
  have hold:∀b,(Value.slice a8 nf e8).ownBlock=some b->b < W3.heap.size:=fun b hb=>((uh HO8).lt b hb).2;have hxo:=((byts_made hn3 (m:=nh) (by unfold maxLen; omega)).alloc (.cells #[.slice (some ⟨W3.heap.size,0,none⟩) nh nh] 74)).kept hg7 (.inr (fun e=>by
   have:=hold W3.heap.size e.symm;omega))
  have hK4:=kwant_app (uh HK3) (m:=nf) (W:=List.replicate nh 0) (by rw[uh HE3,uh HE2,uh HE1]; exact(uh HPF).2.2.symm) hown7 hO7 (hat7.imp (fun e=>by rw[uh HV8]; exact e) (fun e=>by rw[e]; simp; omega)) hxo (fun b hb=>by
   simp only[Value.ownBlock,Option.some.injEq] at hb;subst hb;refine⟨Nat.le_refl _,fun e=>?_⟩;rcases hat7 with h1 | h1
   ·have:=hold g7 h1; omega
   ·rw[h1] at e; simp at e; omega)
  have hB4:=z0m (j:=8) ((uh HB3).trans (hO7.belowK (n:=n) (fun b hb=>((uh HK3).lt (z0u _ 8 (by omega)) hb).1) hn3)) (uh HK3).ng (.slice (some ⟨g7,0,none⟩) (nf+1) d7);clear hown7 hgrow7 hat7 hlt7 hg7 hO7 hb7 q3 q8 hgz7 z8 hxo hold;rw[<-hkz] at hK4;have HK4:=zh hK4;have HB4:=zh hB4;clear hK4 hB4 hkz;go_wp2
  refine bodyPost_end (v:=.tuple #[]) (by simp[results,Tryz.results62,go_sem]) rfl ?_;exact⟨rfl,⟨_,uh HK4⟩,uh HB4⟩
set_option maxRecDepth 100000 in
set_option maxHeartbeats 8000000 in
theorem kroute_sign (n g T D Q:Nat) (k:KP) (V:Nat->Nat->Value) (c b:Nat) (bs:Bool) (w:World) (h:KM n w g T D Q k V) (hl:k.foot.length<=1000) (h0:0 < k.foot.length) (hw:k.want.length=k.foot.length) (hc:c=43\/c=45) (hb:b < 256) (h97:97<=b) (hlr:b - 97 < (z0e k.want).length) (hlr2:(z0e k.want).length<=1000) :
  Calls Tryz.prog 62 #[.pointer (some ⟨g,0,none⟩),.int .u8 c,.int .u8 b,.bool false,.bool bs] w fun e w'=>e=.returned (.tuple #[])/\(∃V',KM n w' g T D Q { k with want:=z0w k.want ((z0e k.want).set (b - 97) c) } V')/\Below n w w':=by
 have hn:=h.nw;have HK:=zh h;obtain⟨a5,e5,hv5,-⟩:=h.topI 5 (by omega) k.foot rfl;have hl1:(kcont k V 8 0).length=k.want.length:=by show ((List.range k.want.length).map (V 18)).length=_; simp
 obtain⟨a8,e8,hv8,ho8⟩:=h.topR 8 k.want.length (by omega) hl1;obtain⟨gp,cp,hgp,-,hgpz⟩:=ho8.form (by omega);simp only[Value.slice.injEq] at hgp;obtain⟨rfl,-,rfl⟩:=hgp;obtain⟨r,hr⟩:∃r,r+1=k.want.length:=⟨k.want.length - 1,by omega⟩
 have er:r=k.want.length - 1:=by omega
 have hkr:KKey k 18 r:=.inr (.inr (.inr (.inl ⟨rfl,by omega⟩)));have e18:kcont k V 18 r=bytsV (z0e k.want):=by rw[er]; rfl
 have hor:=h.own 18 r hkr;have ez:(bytsV (z0e k.want)).length=(z0e k.want).length:=by simp[bytsV]
 rw[e18,ez] at hor;obtain⟨gr,cr,hvr,hgr0,hgrz⟩:=hor.form (by omega);rw[hvr] at hor;have xr:w.cell? ⟨gp,r,none⟩=some (.slice (some ⟨gr,0,none⟩) (z0e k.want).length cr):=by
  rw[ho8.cellAt r (by omega)];show ((List.range k.want.length).map (V 18))[r]?=_;rw[List.getElem?_map,List.getElem?_range (by omega)];show some (V 18 r)=_;rw[hvr]
 obtain⟨s,hs⟩:∃s,s=b - 97:=⟨_,rfl⟩
 rw[<-hs] at hlr ⊢;obtain⟨u,hu⟩:∃u,w.cell? ⟨gr,s,none⟩=some u:=by
  rw[hor.cellAt s (by omega)];exact⟨_,List.getElem?_eq_getElem (by rw[ez]; exact hlr)⟩
 have zu:=hor.frozenAt s;obtain⟨⟨-,-,c5,-,-,c8,-⟩,-,hgz⟩:=h.box;rw[hv5] at c5;rw[hv8] at c8;have HS:=zh (h.sign (r:=r) (by omega) hvr s c);have HKE:=zh (show ({ k with want:=k.want.set r ((k.want.getD r []).set s c) }:KP)={ k with want:=z0w k.want ((z0e k.want).set s c) } by
  unfold z0w z0e;rw[er])
 have hng:=zh (h.lt hkr (b:=gr) (by rw[hvr]; rfl)).1;obtain⟨nr,hnr⟩:∃m,m=(z0e k.want).length:=⟨_,rfl⟩
 rw[<-hnr] at xr hlr hlr2;obtain⟨nw,hnw⟩:∃m,m=k.want.length:=⟨_,rfl⟩
 rw[<-hnw] at c8 hr hw;obtain⟨nf,hnf⟩:∃m,m=k.foot.length:=⟨_,rfl⟩
 rw[<-hnf] at c5 hl h0 hw;obtain⟨kz,hkz⟩:∃kz:KP,kz={ k with want:=z0w k.want ((z0e k.want).set s c) }:=⟨_,rfl⟩
 rw[<-hkz] at HKE ⊢;subst hw;have hri:((nw:Int) - 1)=r:=by omega
 have l1:(r:Int) < nw:=by omega
 have l2:(s:Int) < nr:=by omega
 have hsx:(b:Int) - 97=((s:Nat):Int):=by omega
 clear h hv5 hv8 ho8 hl1 hor hvr hkr e18 er ez hnr hnw hnf hs hkz;have hcb:c < 256:=by omega
 have hcc:(((c:Int)==43)=true)\/(((c:Int)==43)=false/\((c:Int)==45)=true):=by
  rcases hc with e | e
  ·exact .inl (by simp[e])
  ·refine .inr ⟨by simp[e],by simp[e]⟩
 rcases hc with rfl | rfl
 all_goals
  clear hcc;go_enter Tryz.func62,Tryz.ntmps62
  go_wp2
  refine bodyPost_end (v:=.tuple #[]) (by simp[results,Tryz.results62,go_sem]) rfl ?_;refine⟨rfl,⟨V,?_⟩,z0m (Below.refl _ _) (uh hng) _⟩;rw[<-uh HKE];exact uh HS
end Go.Proofs.YtkbpocecbcaiiabGreatDoor
