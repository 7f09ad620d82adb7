import Derived.Test.YtkbpocecbcaiiabGreatDoorO36
namespace Go.Proofs.YtkbpocecbcaiiabGreatDoor
open Go.RowKit
def markD (l:List St) (i:Nat):List St:=l.set i ⟨true,(l.getD i ⟨false,0,[]⟩).holds,(l.getD i ⟨false,0,[]⟩).ahead⟩
def z1s:Nat->List St->List Nat×List St
 | 0,l=>([],l)
 | f+1,l=>match z49 l with
  | none=>([],l)
  | some i=>(i :: (z1s f (markD l i)).1,(z1s f (markD l i)).2)
def z4d (l:List St):Nat:=(l.filter (fun x=>!x.done)).length
theorem z3f {l:List St} {i:Nat} (h:z49 l=some i):∃hi:i < l.length,l[i].done=false/\z2x l i=true:=by
 unfold z49 at h;have hm:=List.mem_of_find?_eq_some h;have hp:=List.find?_some h;have hi:=List.mem_range.1 hm;refine⟨hi,?_⟩;rw[stD l i hi] at hp
 simpa using hp
theorem undoneS_set:∀(l:List St) (i:Nat) (hi:i < l.length) (x:St),l[i].done=false->x.done=true->z4d (l.set i x)+1=z4d l
 | [],i,hi,_,_,_=>by simp at hi
 | a :: l,0,_,x,h,hx=>by
  simp at h;simp[z4d,h,hx]
 | a :: l,i+1,hi,x,h,hx=>by
  have ih:=undoneS_set l i (by simpa using hi) x (by simpa using h) hx;unfold z4d at ih ⊢;simp only[List.set_cons_succ,List.filter_cons];cases a.done <;> simp <;> omega
theorem z54 {l:List St} {i:Nat} (h:z49 l=some i):z4d (markD l i)+1=z4d l:=by
 obtain⟨hi,hd,-⟩:=z3f h;exact undoneS_set l i hi _ hd rfl
theorem z2o (l:List St) (i:Nat):(markD l i).length=l.length:=by simp[markD]
theorem undoneS_le (l:List St):z4d l<=l.length:=List.length_filter_le _ _
theorem keepsB {w1 wr w3:World} {o:Obj} {v:Value} {n:Nat} {xs:List Value} (hK:Keeps 3 w1 wr) (hle:w1.heap.size<=wr.heap.size) (hown:wr.ownsRow w1.heap.size 3 1 v n xs)
  (hg:(wr.alloc o).grownBy w3 v.ownBlock):Keeps 3 w1 w3:=by
 intro g cur fr h;have hlt:=z0g h;rw[<-hK g cur fr h,hg.block g (by simp; omega) ?_,Below.heap_alloc _ _ _ (by omega)];intro e;have:=(hown.lt g e.symm).1;omega
theorem flatten_set (css:List (List Value)) (sz:Nat) (hl:∀c,c∈css->c.length=sz):∀(i j:Nat) (hi:i < css.length) (u:Value),j < sz->css.flatten.set (i*sz+j) u=(css.set i (css[i].set j u)).flatten:=by
 induction css with
 | nil=>intro i j hi; simp at hi
 | cons c css ih=>
  intro i j hi u hj;have hc:=hl c (by simp);cases i with
  | zero=>simp; rw[List.set_append_left _ _ (by omega)]
  | succ i=>
   have:=ih (fun c hc=>hl c (List.mem_cons_of_mem _ hc)) i j (by simpa using hi) u hj;simp only[List.flatten_cons,List.set_cons_succ,List.getElem_cons_succ];rw[List.set_append_right _ _ (by rw[hc,Nat.succ_mul]; omega),hc,<-this]
   congr 2
   rw[Nat.succ_mul]; omega
theorem All2.set {α β:Type} {R:α->β->Prop} {a:α} {b:β} (h:R a b):∀{l:List α} {m:List β} (i:Nat),All2 R l m->All2 R (l.set i a) (m.set i b)
 | [],[],_,_=>trivial
 | _ :: _,_ :: _,0,hh=>⟨h,hh.2⟩
 | _ :: _,_ :: _,i+1,hh=>⟨hh.1,All2.set h i hh.2⟩
 | [],_ :: _,_,hh=>hh.elim
 | _ :: _,[],_,hh=>hh.elim
set_option maxHeartbeats 1000000 in
theorem sOrder_any (v va:Value) (L:Lay) (at_:List Nat) (w:World) (h:CLay w v L) (ha:Ints w va at_) (hla:at_.length=L.tns.length) (hp:L.Paths) (hj:L.Jnys)
  (hn:L.tns.length<=1000) (hl:∀t,t∈L.tns->t.jny.length<=1000) (hpl:∀r,r∈L.rts->r.path.length<=1000) (hg:∀g,g∈at_->g<=1000) :
  Calls Tryz.prog 92 #[v,va] w fun e w'=>∃(a:Option Addr) (m c:Nat),e=.returned (.tuple #[.slice a m c,.bool ((z1s L.tns.length (L.stsAt at_)).2.all (·.done))]) ∧
   ((z1s L.tns.length (L.stsAt at_)).2.all (·.done)=true->Ints w' (.slice a m c) (z1s L.tns.length (L.stsAt at_)).1)/\Below w.heap.size w w':=by
 have H1:=zh (fun (wz:World) (hz:Below w.heap.size w wz)=>trainsAt_any v va L at_ wz (h.below hz) (ha.below hz) hla hp hj hn hl hpl hg);obtain⟨i0,hi0⟩:=info_parts Tryz.infoInt;have HI:=zh hi0;obtain⟨vs,vr,vtt,rfl,-,-,-⟩:=h;obtain⟨aoa,capa,rfl,-,-,-⟩:=SlAt.open ha;have HLA:=zh hla;clear ha hp hi0 hj hpl hl hg hla;go_enter Tryz.func92,Tryz.ntmps92
 obtain⟨Z,hZ⟩:∃Z,Z=z1s L.tns.length (L.stsAt at_):=⟨_,rfl⟩
 rw[<-hZ];have HZ:=zh hZ;clear hZ;go_wp2_with fail
 refine(uh H1 _ (z01 _ _)).mono ?_;rintro e w1 ⟨a,c,css0,rfl,hown0,hA0,hcl0,hb0⟩;have hlen:(L.stsAt at_).length=L.tns.length:=by simp[Lay.stsAt]
 generalize L.stsAt at_=l0 at *;have hb1:Below w.heap.size w w1:=(z01 w _).trans (hb0.mono (by simp));have HS0:=zh (SlAt.ofOwnN hown0 hA0 hcl0 hlen.symm:Sts w1 (.slice a L.tns.length c) l0);have HF0:=zh (And.intro hown0 (And.intro hA0 (And.intro hcl0 (And.intro hb1 hlen))));have HR0:=zh (z5n _ l0 w1 (uh HS0) (by omega));clear hown0 hA0 hcl0 hb0 hb1 H1 hlen;go_wp2_with fail
 refine(uh HR0).mono ?_;rintro e w2 ⟨rfl,hb2⟩;have HB2:=zh hb2;clear hb2;go_wp2
 have hw1:w.heap.size<=w1.heap.size:=(uh HF0).2.2.2.1.size;go_loopg [7,8,9] L.tns.length (fun f vo vn vf wr=>∃(l:List St) (css:List (List Value)) (acc:List Nat),l.length=L.tns.length/\z4d l<=f/\vn=(firstV (z49 l)).1/\vf=.bool (firstV (z49 l)).2 ∧
   wr.ownsRow w.heap.size 191 3 (.slice a L.tns.length c) L.tns.length css.flatten/\All2 (CSt w1) l css/\(∀c,c∈css->c.length=3)/\Keeps 3 w1 wr/\w1.heap.size<=wr.heap.size ∧
   wr.ownsRow w1.heap.size 3 1 vo acc.length (intsV acc)/\acc.length+z4d l<=L.tns.length/\Z=(acc++(z1s f l).1,(z1s f l).2)/\Below w.heap.size w wr)
 case atStart=>
  obtain⟨f1,f2,f3,f4,f5⟩:=uh HF0;have hu:=undoneS_le l0;refine⟨l0,css0,[],f5,by omega,rfl,rfl,(z0j f1 (uh HB2)).mono (by simp),f2,f3,Keeps.below (uh HB2),(uh HB2).size,World.ownsRow_nil _ _ _ _,by simp; omega,by rw[uh HZ]; rfl,f4.trans ((uh HB2).mono f4.size)⟩
 case round=>
  clear HF0 HB2 HR0 HS0 HZ;obtain⟨l,css,acc,hll,hu,rfl,rfl,hown,hA,hcl,hK,hsz,hownI,hlen,hZ,hb⟩:=hrel;obtain⟨ai,ci,hvo⟩:=z02 hownI;subst hvo;have HLL:=zh hll;clear hll;cases hf:z49 l with
  | none=>
   have HZ2:=zh (show Z=(acc,l) by rw[hZ]; cases gk <;> simp[z1s,hf]);have HS:=zh (SlAt.ofOwnN hown (All2.mono (fun _ _ h=>h.keep hK) hA) hcl (uh HLL).symm:Sts wr (.slice a L.tns.length c) l);have HR:=zh (allDone_any _ l wr (uh HS));have HFI:=zh (Ints.ofOwn hownI rfl);have HB:=zh hb;clear hown hA hcl hK hZ hb hownI hf;obtain⟨dn,hdn⟩:∃dn,dn=l.all (·.done):=⟨_,rfl⟩
   rw[<-hdn] at HR;have HDN:=zh hdn;clear hdn;go_wp2_with fail
   refine(uh HR).mono ?_;rintro e w3 ⟨rfl,hb3⟩;have HBB:=zh ((uh HB).trans (hb3.mono (uh HB).size));have HFI3:=zh ((uh HFI).below hb3);clear hb3;cases dn with
   | false=>
    go_wp2
    go_ret2
    exact⟨none,0,0,by rw[uh HZ2,<-uh HDN]; rfl,fun h=>absurd h (by rw[uh HZ2,<-uh HDN]; simp),uh HBB⟩
   | true=>
    go_wp2
    go_ret2
    exact⟨ai,acc.length,ci,by rw[uh HZ2,<-uh HDN]; rfl,fun _=>by rw[uh HZ2]; exact uh HFI3,uh HBB⟩
  | some i=>
   obtain⟨hi,hd,-⟩:=z3f hf;have hum:=z54 hf;obtain⟨f,hfe⟩:∃f,gk=f+1:=⟨gk - 1,by omega⟩
   subst hfe;have HZ2:=zh (show Z=((acc++[i])++(z1s f (markD l i)).1,(z1s f (markD l i)).2) by rw[hZ]; simp[z1s,hf]);have hi':i < L.tns.length:=by rw[<-uh HLL]; exact hi
   have hcs:i < css.length:=by rw[<-hA.length]; exact hi
   obtain⟨g,hg0⟩:∃g,a=some ⟨g,0,none⟩:=by
    rcases hown.2 with ⟨h',_⟩ | ⟨g',cap',cur,h',_⟩
    ·simp at h'; omega
    ·simp at h'; exact⟨g',h'.1⟩
   subst hg0;have hci:css[i].length=3:=hcl _ (List.getElem_mem _);have hAi:=hA.get i hi hcs;obtain⟨vah,hcsi,hInt⟩:=hAi;have hc0:=hown.cellAt (i*3+0) (by omega);rw[z4j css 3 hcl i 0 hcs (by omega),hcsi] at hc0;simp at hc0;have hz0:=hown.frozenAt (i*3);have hst:=hown.stored (i*3+0) (.bool true);rw[flatten_set css 3 hcl i 0 hcs _ (by omega),hcsi] at hst;simp only[List.set_cons_zero,Nat.add_zero] at hst;have hgl:=(hown.lt g rfl)
   have hT:Typed wr g 191:=by
    rcases hown.2 with ⟨h',_⟩ | ⟨g',cap',cur,h',_,hg,_⟩
    ·simp at h'
    ·simp at h'; obtain⟨rfl,-⟩:=h'; exact⟨cur,_,hg⟩
   have hK2:=hK.trans (Keeps.setCell ⟨g,i*3,none⟩ (.bool true) hT (by decide));have hownI2:=z3e hownI g (i*3) (.bool true) hT (by decide);have HM:=zh (show All2 (CSt w1) (markD l i) (css.set i [.bool true,.int .i64 l[i].holds,vah]) by
    unfold markD;rw[stD l i hi];exact All2.set ⟨vah,rfl,hInt⟩ i hA)
   have HCL:=zh (show ∀c,c∈css.set i [.bool true,.int .i64 l[i].holds,vah]->c.length=3 by
    intro c hc;rcases List.mem_or_eq_of_mem_set hc with h | h
    ·exact hcl c h
    ·subst h; rfl)
   have HB:=zh (hb.setCell (p:=⟨g,i*3,none⟩) hgl.1 (.bool true));have HST:=zh hst.1;have HK2:=zh hK2;have l1:(i:Int) < L.tns.length:=by omega
   have hml:(markD l i).length=L.tns.length:=by rw[z2o]; exact uh HLL
   have HML:=zh hml;have HUM:=zh (And.intro hum (And.intro hu hlen));have hal:acc.length < 1000:=by omega
   obtain⟨hgl1,hgl2⟩:=hgl;clear hown hA hcl hK hZ hb hf hst hT hK2 hInt hcsi hml hownI hum hci hd hu hlen hcs;generalize l[i].holds=hold at *;generalize l[i].done=dold at *;rw[show (firstV (some i)).1=.int .i64 i from rfl,show (firstV (some i)).2=true from rfl];go_wp2_with (at_builtin; refine wpList_append_own _ rfl _ _ 49 rfl w1.heap.size 3 i0 (.int .i64 0) 1 8 Tryz.underlying49 (uh HI).1 (uh HI).2.1 (uh HI).2.2.1 (uh HI).2.2.2 rfl (by decide) _ _ _ rfl (hownI2.alloc _) ⟨wr.heap.size,0,none⟩ 1 1 [.int .i64 i] rfl rfl (by exact z0t _ [.int .i64 i] _ _ (by simp[World.setCell])) (z0a rfl) (by unfold maxLen; omega) (by omega) (by simp[World.setCell]; omega) ?_; intro v3 w3 hown3 hgrow3 _)
   have hsz2:w1.heap.size<=(wr.setCell ⟨g,i*3,none⟩ (.bool true)).heap.size:=by simp[World.setCell]; omega
   have hK3:=keepsB (uh HK2) hsz2 hownI2 hgrow3;have hR3:=z06 (uh HST) (z0f hownI2 hgrow3 (by decide));have hb3:=grow_belowB (uh HB) (by omega) hw1 hownI2 hgrow3;have hs3:w1.heap.size<=w3.heap.size:=by have:=hgrow3.size; simp[World.setCell] at this; omega
   have HS3:=zh (SlAt.ofOwnN hR3 (All2.mono (fun _ _ h=>h.keep hK3) (uh HM)) (uh HCL) (uh HML).symm:Sts w3 (.slice (some ⟨g,0,none⟩) L.tns.length c) (markD l i));have HR3:=zh (z5n _ _ w3 (uh HS3) (by rw[uh HML]; exact hn));have HF3:=zh (And.intro hK3 (And.intro hR3 hb3));clear hownI2 hgrow3 hK3 hR3 hb3 hsz2 hc0 hz0;refine(uh HR3).mono ?_;rintro e w4 ⟨rfl,hb4⟩;have HB4:=zh hb4;have hs4:=hb4.size;clear hb4;go_wp2
   go_roundg f
   case measure=>omega
   case rel=>
    obtain⟨u1,u2,u3⟩:=uh HUM;have hI4:=z0j hown3 (uh HB4);rw[<-z0x] at hI4;exact⟨markD l i,_,acc++[i],uh HML,by omega,rfl,rfl,z0j (uh HF3).2.1 (uh HB4),uh HM,uh HCL,(uh HF3).1.trans (Keeps.below (uh HB4)),by omega,by simpa using hI4,by simp; omega,uh HZ2,(uh HF3).2.2.trans ((uh HB4).mono (by omega))⟩
end Go.Proofs.YtkbpocecbcaiiabGreatDoor
namespace Go.Proofs.YtkbpocecbcaiiabGreatDoor
open Go.RowKit
end Go.Proofs.YtkbpocecbcaiiabGreatDoor
namespace Go.Proofs.YtkbpocecbcaiiabGreatDoor
open Go.RowKit
set_option maxHeartbeats 400000 in
theorem AtFirst_any (v:Value) (L:Lay) (w:World) (h:CLay w v L) (hl:L.tns.length<=1000) :
  Calls Tryz.prog 59 #[v] w fun e w'=>∃a n c,e=.returned (.slice a n c)/\Ints w' (.slice a n c) (List.replicate L.tns.length 0)/\Below w.heap.size w w':=by
 obtain⟨vs,vr,vt,rfl,-,-,hT⟩:=h;obtain⟨at_,ct,rfl,-,-,-⟩:=SlAt.open hT;clear hT;obtain⟨i0,hi0⟩:=info_parts Tryz.infoInt;have hmk:=fun (wz:World)=>run_make (P:=Tryz.prog) wz 49 3 i0 (.int .i64 0) Tryz.underlying49 hi0.1 hi0.2.1 .i64 .i64 (L.tns.length:Int) (L.tns.length:Int) (by omega) (by omega) (by rw[hi0.2.2.2]; omega) (by omega);rw[hi0.2.2.1] at hmk;simp only[Int.toNat_natCast,Nat.mul_one] at hmk;have hI:=zh (fun (wz:World)=>ints_made wz L.tns.length (by unfold maxLen; omega));clear hi0;go_enter Tryz.func59,Tryz.ntmps59
 go_wp2
 go_ret
 refine⟨_,_,_,rfl,?_,z08 (o1:=z0n L vs vr (.slice at_ L.tns.length ct)) (Below.refl _ _)⟩;have:=uh hI (w.alloc (z0n L vs vr (.slice at_ L.tns.length ct)))
 simpa [z0n] using this
def z2h (s:ByteArray):Nat×Nat:=
 if 256 < s.size then (1,0)
 else if ((layL s).1&&decide ((layL s).2.1=s.size))=false then (2,(layL s).2.1)
 else (0,0)
def z40:Value:=.agg #[.int .i64 0,.int .i64 0,.int .i64 0,.slice none 0 0,.slice none 0 0,.slice none 0 0]
theorem z2d:LShape z40:=⟨0,0,0,none,none,none,0,0,0,0,0,0,rfl⟩
theorem gr_below {w w':World} {b:Nat} (h:w.grownBy w' (some b)) (B:Nat) (hB:B<=w.heap.size) (hb:B<=b):Below B w w':=
 ⟨h.os,h.tape,h.output,h.size,fun k hk=>h.block k (by omega) (by simp; omega)⟩
set_option maxHeartbeats 1000000 in
theorem cRead_lo (s:ByteArray) (w:World) :
  Calls Tryz.prog 90 #[.string s] w fun e w'=>∃v,e=.returned (.tuple #[v,.int .i64 (z2h s).1,.int .i64 (z2h s).2])/\LShape v/\((z2h s).1=0->CLayL w.heap.size w' v (layL s).2.2)/\Below w.heap.size w w':=by
 obtain⟨E,hE⟩:∃E,E=z2h s:=⟨_,rfl⟩
 rw[<-hE];unfold z2h at hE;have HE:=zh hE;clear hE;by_cases c1:256 < s.size
 ·rw[if_pos c1] at HE
  have c1':(256:Int) < s.size:=by omega
  clear c1;go_enter Tryz.func90,Tryz.ntmps90
  go_wp2
  refine bodyPost_ret (v:=.tuple #[z40,.int .i64 1,.int .i64 0]) (by simp[results,Tryz.results90,go_sem,z40]) rfl ?_;exact⟨z40,by rw[uh HE]; rfl,z2d,fun h=>absurd h (by rw[uh HE]; simp),z01 _ _⟩
 ·rw[if_neg c1] at HE
  have hs:s.size<=256:=by omega
  have c1':¬(256:Int) < s.size:=by omega
  clear c1;have hC:Cur ((w.alloc zeroLay).alloc (.cells #[.string s,.int .i64 0] 179)) (w.heap.size+1) s 0:=blk2 w _ _;have hR:=blk1 w zeroLay (.cells #[.string s,.int .i64 0] 179);have H:=zh (layout_clo (w.heap.size+1) s _ hC hs);have HR:=zh hR;clear hC hR;obtain⟨Z,hZ⟩:∃Z,Z=layL s:=⟨_,rfl⟩
  rw[<-hZ] at HE H ⊢;clear hZ;go_enter Tryz.func90,Tryz.ntmps90
  go_wp2_with fail
  refine(uh H).mono ?_;rintro e w1 ⟨v,rfl,⟨T,D,Q,a1,a2,a3,n1,n2,n3,d1,d2,d3,rfl⟩,hL0,hC1,hle,hg⟩;have hL:=fun h=>(hL0 h).mono (m:=w.heap.size) (by first | omega | (simp; omega));clear hL0;have hbw:Below w.heap.size w w1:=(((Below.refl _ _).alloc (Nat.le_refl _) _).alloc (by simp) _).trans (gr_below hg w.heap.size (by simp; omega) (by omega));have hR1:=z1t (uh HR) hg (by omega);have D1:=zh (And.intro hR1 (And.intro hC1 (And.intro hbw hL)));obtain⟨q0,q1,q2,q3,qb⟩:=hC1.cells;obtain⟨⟨r0,r1,r2,r3,r4,r5⟩,⟨e0,e1,e2,e3,e4,e5⟩,qr⟩:=six0 hR1;have hS:=zh (fun u0 u1 u2 u3 u4 u5=>store6 (⟨_,_,hR1⟩:Typed w1 w.heap.size 82) u0 u1 u2 u3 u4 u5);clear HR H hL hC1 hg hbw hR1;cases hok:(Z.1&&decide (Z.2.1=s.size)) with
  | false=>
   rw[hok,if_pos rfl] at HE;have hcase:Z.1=false\/(Z.1=true/\(Z.2.1:Int) < s.size):=by
    cases h1:Z.1
    ·exact .inl rfl
    ·right
     rw[h1] at hok;simp at hok;exact⟨rfl,by omega⟩
   clear hok;rcases hcase with h1 | ⟨h1,h2⟩
   ·rw[h1]
    clear h1;go_wp2
    go_region
    go_wp2
    refine bodyPost_ret (v:=.tuple #[z40,.int .i64 2,.int .i64 Z.2.1]) (by simp[results,Tryz.results90,go_sem,z40,r0,r1,r2,r3,r4,r5,qr]) rfl ?_;refine⟨z40,by rw[uh HE]; rfl,z2d,fun h=>absurd h (by rw[uh HE]; simp),?_⟩;have hb9:=(uh D1).2.2.1.trans ((uh hS (.int .i64 0) (.int .i64 0) (.int .i64 0) (.slice none 0 0) (.slice none 0 0) (.slice none 0 0)).2 w.heap.size (Nat.le_refl _));exact(hb9.alloc hb9.size _).drew
   ·rw[h1]
    clear h1;go_wp2
    go_region
    go_wp2
    refine bodyPost_ret (v:=.tuple #[z40,.int .i64 2,.int .i64 Z.2.1]) (by simp[results,Tryz.results90,go_sem,z40,r0,r1,r2,r3,r4,r5,qr]) rfl ?_;refine⟨z40,by rw[uh HE]; rfl,z2d,fun h=>absurd h (by rw[uh HE]; simp),?_⟩;have hb9:=(uh D1).2.2.1.trans ((uh hS (.int .i64 0) (.int .i64 0) (.int .i64 0) (.slice none 0 0) (.slice none 0 0) (.slice none 0 0)).2 w.heap.size (Nat.le_refl _));exact(hb9.alloc hb9.size _).drew
  | true=>
   rw[hok,if_neg (by simp)] at HE;have h12:Z.1=true/\Z.2.1=s.size:=by simpa using hok
   obtain⟨h1,h2⟩:=h12;have h2':¬((Z.2.1:Int) < s.size):=by omega
   have HCL:=zh ((uh D1).2.2.2 h1);rw[h1];clear hok h1 h2;go_wp2
   refine bodyPost_ret (v:=.tuple #[.agg #[.int .i64 T,.int .i64 D,.int .i64 Q,.slice a1 n1 d1,.slice a2 n2 d2,.slice a3 n3 d3],.int .i64 0,.int .i64 0]) (by simp[results,Tryz.results90,go_sem,r0,r1,r2,r3,r4,r5,qr]) rfl ?_;have hSS:=uh hS (.int .i64 T) (.int .i64 D) (.int .i64 Q) (.slice a1 n1 d1) (.slice a2 n2 d2) (.slice a3 n3 d3);have hb9:=(uh D1).2.2.1.trans (hSS.2 w.heap.size (Nat.le_refl _));refine⟨_,by rw[uh HE]; rfl,⟨_,_,_,_,_,_,_,_,_,_,_,_,rfl⟩,fun _=>?_,hb9.alloc hb9.size _⟩;exact((uh HCL).keep hSS.1).below (z01 _ _)
def Lay.okL (L:Lay) (at_:List Nat):Bool:=(z1s L.tns.length (L.stsAt at_)).2.all (·.done)
def z55 (s:ByteArray):Nat×Nat:=
 if (z2h s).1≠0 then z2h s
 else if (layL s).2.2.checkOf.1≠0 then (layL s).2.2.checkOf
 else if (layL s).2.2.okL (List.replicate (layL s).2.2.tns.length 0)=false then (6,0)
 else (0,0)
structure Lay.Good (L:Lay):Prop where
 paths:L.Paths
 jnys:L.Jnys
 tns:L.tns.length<=5
 jl:∀t,t∈L.tns->t.jny.length<=8
 pl:∀r,r∈L.rts->r.path.length<=1000
theorem jnys_ok (L:Lay) (h:∀j,j < L.tns.length->L.trainOK (L.tn j) (L.tns.take j)=true):L.Jnys:=by
 intro t ht r hr;obtain⟨j,hj,rfl⟩:=List.getElem_of_mem ht;have:=h j hj;rw[tn_eq' L j hj] at this;unfold Lay.trainOK at this;simp only[Bool.and_eq_true] at this;exact joins_lt L _ _ this.2 r hr
theorem check0 (L:Lay) (h:L.checkOf.1=0) (hp:L.Paths):L.Good:=by
 unfold Lay.checkOf at h;cases hb:L.big with
 | true=>rw[hb] at h; cases h
 | false=>
  rw[hb,if_neg (by simp)] at h;cases h4:(List.range L.rts.length).find? (fun i=>!L.routeOK (L.rt i)) with
  | some i=>rw[h4] at h; cases h
  | none=>
   rw[h4] at h;simp only at h;cases h5:(List.range L.tns.length).find? (fun i=>!L.trainOK (L.tn i) (L.tns.take i)) with
   | some i=>rw[h5] at h; cases h
   | none=>
    rw[List.find?_eq_none] at h5;unfold Lay.big at hb;simp only[Bool.or_eq_false_iff,decide_eq_false_iff_not,List.any_eq_false] at hb;obtain⟨⟨⟨⟨-,-⟩,b3⟩,b4⟩,b5⟩:=hb;refine⟨hp,jnys_ok L (fun j hj=>by simpa using h5 j (List.mem_range.2 hj)),by omega,fun t ht=>?_,fun r hr=>?_⟩
    ·have:=b5 t ht; simp at this; exact this
    ·have:=b4 r hr; simp at this; omega
set_option maxHeartbeats 1000000 in
theorem load_lo (s:ByteArray) (w:World) (hP:(z2h s).1=0->(layL s).2.2.Paths) :
  Calls Tryz.prog 58 #[.string s] w fun e w'=>∃v,e=.returned (.tuple #[v,.int .i64 (z55 s).1,.int .i64 (z55 s).2])/\LShape v/\((z55 s).1=0->CLayL w.heap.size w' v (layL s).2.2/\(layL s).2.2.Good)/\Below w.heap.size w w':=by
 obtain⟨E,hE⟩:∃E,E=z55 s:=⟨_,rfl⟩
 rw[<-hE];unfold z55 at hE;have H1:=zh (fun w=>cRead_lo s w);obtain⟨F,hF⟩:∃F,F=z2h s:=⟨_,rfl⟩
 rw[<-hF] at hE H1 hP;generalize (layL s).2.2=L at *;have HE:=zh hE;have HP:=zh hP;clear hE hF hP;go_enter Tryz.func58,Tryz.ntmps58
 go_wp2_with fail
 refine(uh H1 _).mono ?_;rintro e w1 ⟨v,rfl,⟨T,D,Q,a1,a2,a3,n1,n2,n3,d1,d2,d3,rfl⟩,hL0,hb⟩;have hL:=fun h=>(hL0 h).mono (m:=w.heap.size) (by simp);clear hL0;have hbw:Below w.heap.size w w1:=(z01 w zeroLay).trans (hb.mono (by simp));have hR1:w1.heap[w.heap.size]?=some zeroLay:=(hb.block _ (by simp)).trans (heap_alloc_new w zeroLay);have hlt1:=z0g hR1;have D1:=zh (And.intro hR1 (And.intro hL hbw));clear hb hL hbw H1 hR1;by_cases hf0:F.1=0
 ·have HCL:=zh ((uh D1).2.1 hf0)
  have HPP:=zh (uh HP hf0);rw[if_neg (by simp[hf0])] at HE;have hfz:((F.1:Int) != 0)=false:=by simp[hf0]
  clear hf0 HP;have HR2:=zh ((Below.heap_alloc w1 (.cells #[.int .i64 T,.int .i64 D,.int .i64 Q,.slice a1 n1 d1,.slice a2 n2 d2,.slice a3 n3 d3] 82) _ hlt1).trans (uh D1).1);have HL2:=zh (heap_alloc_new w1 (.cells #[.int .i64 T,.int .i64 D,.int .i64 Q,.slice a1 n1 d1,.slice a2 n2 d2,.slice a3 n3 d3] 82));have HC2:=zh ((uh HCL).below (z01 w1 (.cells #[.int .i64 T,.int .i64 D,.int .i64 Q,.slice a1 n1 d1,.slice a2 n2 d2,.slice a3 n3 d3] 82)));have HB2:=zh ((uh D1).2.2.alloc (uh D1).2.2.size (.cells #[.int .i64 T,.int .i64 D,.int .i64 Q,.slice a1 n1 d1,.slice a2 n2 d2,.slice a3 n3 d3] 82));have HK:=zh (cCheck_any _ L _ (uh HC2).lay (uh HPP));obtain⟨C,hC⟩:∃C,C=L.checkOf:=⟨_,rfl⟩
  rw[<-hC] at HK HE;have HCO:=zh hC;clear HCL D1 hC;go_wp2_with fail
  refine(uh HK).mono ?_;rintro e w3 ⟨rfl,hb3⟩;have hz3:=hb3.size;simp at hz3;have hR3:=(hb3.block _ (by simp; omega)).trans (uh HR2);have hL3:=(hb3.block _ (by simp)).trans (uh HL2);have HC3:=zh ((uh HC2).below hb3);have HB3:=zh ((uh HB2).trans (hb3.mono (uh HB2).size));have HR3:=zh hR3;have HL3:=zh hL3;clear hb3 HR2 HL2 HC2 HB2 HK;obtain⟨⟨r0,r1,r2,r3,r4,r5⟩,⟨e0,e1,e2,e3,e4,e5⟩,qr⟩:=six0 hR3;obtain⟨⟨l0,l1,l2,l3,l4,l5⟩,-,ql⟩:=six0 hL3;clear hR3 hL3;by_cases hc0:C.1=0
  ·rw[if_neg (by simp[hc0])] at HE
   have hcz:((C.1:Int) != 0)=false:=by simp[hc0]
   have HG:=zh (check0 L (by rw[<-uh HCO]; exact hc0) (uh HPP));have HA:=zh (AtFirst_any _ L w3 (uh HC3).lay (by have:=(uh HG).tns; omega));clear hc0;go_wp2_with fail
   refine(uh HA).mono ?_;rintro e w4 ⟨ag,ng,cg,rfl,hI4,hb4⟩;have HR4:=zh ((hb4.block _ qr).trans (uh HR3));have hL4:=(hb4.block _ ql).trans (uh HL3);have HL4:=zh hL4;have HC4:=zh ((uh HC3).below hb4);have HB4:=zh ((uh HB3).trans (hb4.mono (uh HB3).size));have hz4:=hb4.size;have HO:=zh (sOrder_any _ _ L _ w4 (uh HC4).lay hI4 (by simp) (uh HPP) (uh HG).jnys (by have:=(uh HG).tns; omega) (fun t ht=>by have:=(uh HG).jl t ht; omega) (uh HG).pl (fun g hg=>by have:=List.eq_of_mem_replicate hg; omega));clear r0 r1 r2 r3 r4 r5 e0 e1 e2 e3 e4 e5 l0 l1 l2 l3 l4 l5 HA hb4 hI4;obtain⟨⟨l0,l1,l2,l3,l4,l5⟩,-,ql4⟩:=six0 hL4;obtain⟨ok,hok⟩:∃ok,ok=L.okL (List.replicate L.tns.length 0):=⟨_,rfl⟩
   rw[<-hok] at HE;change Hid (Calls _ _ _ _ (fun e w'=>∃a m c,e=.returned (.tuple #[.slice a m c,.bool (L.okL (List.replicate L.tns.length 0))])/\(_->_)/\_)) at HO;rw[<-hok] at HO;clear hL4 hok;go_wp2_with fail
   refine(uh HO).mono ?_;rintro e w5 ⟨ao,no,co,rfl,-,hb5⟩;have hR5:=(hb5.block _ (by omega)).trans (uh HR4);have hL5:=(hb5.block _ (by omega)).trans (uh HL4);have HC5:=zh ((uh HC4).below hb5);have HB5:=zh ((uh HB4).trans (hb5.mono (uh HB4).size));have hS:=zh (fun u0 u1 u2 u3 u4 u5=>store6 (⟨_,_,hR5⟩:Typed w5 w.heap.size 82) u0 u1 u2 u3 u4 u5);clear l0 l1 l2 l3 l4 l5 hb5 HO;obtain⟨⟨r0,r1,r2,r3,r4,r5⟩,⟨e0,e1,e2,e3,e4,e5⟩,qr5⟩:=six0 hR5;obtain⟨⟨l0,l1,l2,l3,l4,l5⟩,-,ql5⟩:=six0 hL5;clear hR5 hL5;cases ok with
   | false=>
    rw[if_pos rfl] at HE;go_wp2
    refine bodyPost_ret (v:=.tuple #[z40,.int .i64 6,.int .i64 0]) (by simp[results,Tryz.results58,go_sem,z40,r0,r1,r2,r3,r4,r5]) rfl ?_;exact⟨z40,by rw[uh HE]; rfl,z2d,fun h=>absurd h (by rw[uh HE]; simp),(uh HB5).trans ((uh hS _ _ _ _ _ _).2 w.heap.size (Nat.le_refl _))⟩
   | true=>
    rw[if_neg (by simp)] at HE;go_wp2
    refine bodyPost_ret (v:=.tuple #[.agg #[.int .i64 T,.int .i64 D,.int .i64 Q,.slice a1 n1 d1,.slice a2 n2 d2,.slice a3 n3 d3],.int .i64 0,.int .i64 0]) (by simp[results,Tryz.results58,go_sem,r0,r1,r2,r3,r4,r5]) rfl ?_;exact⟨_,by rw[uh HE]; rfl,⟨_,_,_,_,_,_,_,_,_,_,_,_,rfl⟩,fun _=>⟨(uh HC5).keep (uh hS _ _ _ _ _ _).1,uh HG⟩,(uh HB5).trans ((uh hS _ _ _ _ _ _).2 w.heap.size (Nat.le_refl _))⟩
  ·rw[if_pos hc0] at HE
   have hcz:((C.1:Int) != 0)=true:=by simp[hc0]
   have hS:=zh (fun u0 u1 u2 u3 u4 u5=>store6 (⟨_,_,uh HR3⟩:Typed w3 w.heap.size 82) u0 u1 u2 u3 u4 u5);have HC0:=zh hc0;clear hc0;go_wp2
   refine bodyPost_ret (v:=.tuple #[z40,.int .i64 C.1,.int .i64 C.2]) (by simp[results,Tryz.results58,go_sem,z40,r0,r1,r2,r3,r4,r5]) rfl ?_;exact⟨z40,by rw[uh HE],z2d,fun h=>absurd h (by rw[uh HE]; exact uh HC0),(uh HB3).trans ((uh hS _ _ _ _ _ _).2 w.heap.size (Nat.le_refl _))⟩
 ·rw[if_pos hf0] at HE
  have hfz:((F.1:Int) != 0)=true:=by simp[hf0]
  obtain⟨⟨r0,r1,r2,r3,r4,r5⟩,⟨e0,e1,e2,e3,e4,e5⟩,qr⟩:=six0 (uh D1).1;have HF0:=zh hf0;clear hf0;have hS:=zh (fun u0 u1 u2 u3 u4 u5=>store6 (⟨_,_,(uh D1).1⟩:Typed w1 w.heap.size 82) u0 u1 u2 u3 u4 u5);go_wp2
  refine bodyPost_ret (v:=.tuple #[z40,.int .i64 F.1,.int .i64 F.2]) (by simp[results,Tryz.results58,go_sem,z40,r0,r1,r2,r3,r4,r5,qr]) rfl ?_;have hb9:=(uh D1).2.2.trans ((uh hS (.int .i64 0) (.int .i64 0) (.int .i64 0) (.slice none 0 0) (.slice none 0 0) (.slice none 0 0)).2 w.heap.size (Nat.le_refl _));exact⟨z40,by rw[uh HE],z2d,fun h=>absurd h (by rw[uh HE]; exact uh HF0),hb9.alloc hb9.size _⟩
end Go.Proofs.YtkbpocecbcaiiabGreatDoor
