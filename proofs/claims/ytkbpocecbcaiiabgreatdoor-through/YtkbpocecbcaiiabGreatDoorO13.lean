import Derived.Test.YtkbpocecbcaiiabGreatDoorO12
namespace Go.Proofs.YtkbpocecbcaiiabGreatDoor
open Go.RowKit
def z0n (L:Lay) (vs vr vt:Value):Obj:=.cells #[.int .i64 L.T,.int .i64 L.D,.int .i64 L.Q,vs,vr,vt] 82
theorem z3x {w wr:World} {L:Lay} {vh vr vt:Value} (hb:Below (w.heap.size+1) (w.alloc (z0n L vh vr vt)) wr) :
  wr.cell? ⟨w.heap.size,0,none⟩=some (.int .i64 L.T)/\wr.cell? ⟨w.heap.size,1,none⟩=some (.int .i64 L.D)/\wr.cell? ⟨w.heap.size,2,none⟩=some (.int .i64 L.Q) ∧
  wr.cell? ⟨w.heap.size,3,none⟩=some vh/\wr.cell? ⟨w.heap.size,4,none⟩=some vr/\wr.cell? ⟨w.heap.size,5,none⟩=some vt/\w.heap.size < wr.heap.size:=
 ⟨z1g hb 0,z1g hb 1,z1g hb 2,z1g hb 3,z1g hb 4,z1g hb 5,box_size hb⟩
set_option maxHeartbeats 400000 in
theorem z2l (v:Value) (L:Lay) (x:Nat) (w:World) (h:CLay w v L) :
  Calls Tryz.prog 101 #[v,.int .i64 x] w fun e w'=>e=.returned (.bool (decide (x < L.sw.length)))/\Below w.heap.size w w':=by
 obtain⟨vs,vr,vt,rfl,hS,-,-⟩:=h;obtain⟨a1,d1,rfl,-,hm,-⟩:=SlAt.open hS;unfold maxLen at hm;clear hS;have d:decide ((0:Int)<=(x:Int))=true:=by simp
 generalize hz:decide (x < L.sw.length)=z;have HZ:=zh (show decide ((x:Int) < L.sw.length)=z by rw[<-hz,decide_eq_decide]; omega);clear hz;go_enter Tryz.func101,Tryz.ntmps101
 go_wp2
 all_goals
  go_ret
  exact⟨z04 (by have:=uh HZ; first | exact this | (simp_all; done) | (simp_all; omega)),z01 _ _⟩
set_option maxHeartbeats 400000 in
theorem HasRoute_any (v:Value) (L:Lay) (x:Nat) (w:World) (h:CLay w v L) :
  Calls Tryz.prog 145 #[v,.int .i64 x] w fun e w'=>e=.returned (.bool (decide (x < L.rts.length)))/\Below w.heap.size w w':=by
 obtain⟨vs,vr,vt,rfl,-,hS,-⟩:=h;obtain⟨a1,d1,rfl,-,hm,-⟩:=SlAt.open hS;unfold maxLen at hm;clear hS;have d:decide ((0:Int)<=(x:Int))=true:=by simp
 generalize hz:decide (x < L.rts.length)=z;have HZ:=zh (show decide ((x:Int) < L.rts.length)=z by rw[<-hz,decide_eq_decide]; omega);clear hz;go_enter Tryz.func145,Tryz.ntmps145
 go_wp2
 all_goals
  go_ret
  exact⟨z04 (by have:=uh HZ; first | exact this | (simp_all; done) | (simp_all; omega)),z01 _ _⟩
set_option maxHeartbeats 400000 in
theorem z22 (v:Value) (L:Lay) (x:Nat) (w:World) (h:CLay w v L) :
  Calls Tryz.prog 68 #[v,.int .i64 x] w fun e w'=>e=.returned (.bool (L.sw.getD x false))/\Below w.heap.size w w':=by
 have HL:=zh h;obtain⟨vs,vr,vt,rfl,hS,-,-⟩:=h;obtain⟨a1,d1,rfl,-,hm,h3⟩:=SlAt.open hS;unfold maxLen at hm;clear hS;have H1:=zh (fun (wz:World) (hz:Below w.heap.size w wz)=>z2l _ L x wz ((uh HL).below hz));by_cases hx:x < L.sw.length
 ·obtain⟨g,off,rfl,hg,cs,-,hC,hc⟩:=h3 x hx
  unfold CBool at hC;subst hC;have hc0:=hc 0 (by omega);simp at hc0;have HZ:=zh (sw_at L.sw x hx);rw[show decide (x < L.sw.length)=true from decide_eq_true hx] at H1;have l0:(0:Int)<=x:=by omega
  have l1:(x:Int) < L.sw.length:=by omega
  rw[uh HZ];clear hc h3;generalize L.sw[x]=z at *;clear hx;go_enter Tryz.func68,Tryz.ntmps68
  go_wp2_with fail
  refine(uh H1 _ (z01 w (z0n L _ _ _))).mono ?_;rintro e w1 ⟨rfl,hb⟩;have hbx:Below (w.heap.size+1) (w.alloc (z0n L (.slice (some ⟨g,off,none⟩) L.sw.length d1) vr vt)) w1:=hb.mono (by simp);obtain⟨q0,q1,q2,q3,q4,q5,qs⟩:=z3x hbx;rw[<-(z09 hbx).cell (p:=⟨g,_,none⟩) hg] at hc0;have HB:=zh (z09 hbx);clear hb hbx;go_wp2
  go_ret
  exact⟨rfl,uh HB⟩
 ·have HZ:=zh (show L.sw.getD x false=false by rw[List.getD_eq_getElem?_getD,List.getElem?_eq_none (by omega)]; rfl)
  rw[show decide (x < L.sw.length)=false from decide_eq_false hx] at H1;rw[uh HZ];clear h3 hx;go_enter Tryz.func68,Tryz.ntmps68
  go_wp2_with fail
  refine(uh H1 _ (z01 w (z0n L _ _ _))).mono ?_;rintro e w1 ⟨rfl,hb⟩;have HB:=zh ((z01 w (z0n L (.slice a1 L.sw.length d1) vr vt)).trans (hb.mono (by simp)));clear hb;go_wp2
  go_ret
  exact⟨rfl,uh HB⟩
set_option maxHeartbeats 400000 in
theorem z4o (v:Value) (l:List (Nat×Nat)) (x:Nat) (w:World) (h:Items w v l) :
  Calls Tryz.prog 103 #[v,.int .i64 x] w fun e w'=>e=.returned (.bool (has l x))/\Below w.heap.size w w':=by
 obtain⟨ao,cap,rfl,h1,h2,h3⟩:=SlAt.open h;clear h;unfold maxLen at h2;generalize hz:has l x=z;have HZ:=zh hz;clear hz;go_enter Tryz.func103,Tryz.ntmps103
 go_wp2
 go_loopw [9] (fun i wr=>∃k:Nat,i=.int .i64 k/\k<=l.length/\(∀j (hj:j < l.length),j < k->l[j].1≠x)/\Below w.heap.size w wr) (fun i _=>l.length - (intOf i).toNat)
 case atStart=>exact⟨0,rfl,Nat.zero_le _,fun j _ h=>by omega,Below.refl _ _⟩
 case round=>
  obtain⟨k,rfl,hk,hno,hb⟩:=hrel;have HNO:=zh hno;have HB:=zh hb;have hsz:=hb.size;clear hno;by_cases hlt:k < l.length
  ·obtain⟨g,off,hao,hg,cs,-,hC,hc⟩:=h3 k hlt
   subst hao;unfold CItem itemV at hC;subst hC;have hc0:=hc 0 (by omega);have hc1:=hc 1 (by omega);rw[<-hb.cell (p:=⟨g,_,none⟩) hg] at hc0 hc1;simp at hc0 hc1;have hmem:=zh (List.getElem_mem hlt);have HE:=zh (show (secs l)[k]'(by simpa [secs] using hlt)=l[k].1 by simp[secs]);have hgw:g < wr.heap.size:=by omega
   clear hc h3 hb;by_cases hx:l[k].1=x
   ·have HZ2:=zh (show z=true by
     rw[<-uh HZ,has,List.contains_iff_mem,secs,List.mem_map];exact⟨l[k],uh hmem,hx⟩)
    have d:((l[k].1:Int)==(x:Int))=true:=by simp; omega
    clear hx;generalize l[k].1=y at *;generalize l[k].2=u at *;go_wp2
    go_ret
    exact⟨z04 (uh HZ2).symm,(uh HB).alloc hsz _⟩
   ·have HNK:=zh (show ∀j (hj:j < l.length),j < k+1->l[j].1≠x by
     intro j hj hjk;rcases Nat.lt_or_ge j k with h | h
     ·exact uh HNO j hj h
     ·obtain rfl:j=k:=by omega
      exact hx)
    have d:((l[k].1:Int)==(x:Int))=false:=by simp; omega
    clear hx HE;obtain⟨y,hy⟩:∃y,y=l[k].1:=⟨_,rfl⟩
    obtain⟨u,hu⟩:∃u,u=l[k].2:=⟨_,rfl⟩
    rw[<-hy] at d hc0;rw[<-hu] at hc1;clear hy hu;go_wp2
    exact⟨⟨k+1,by go_num,by omega,uh HNK,(uh HB).alloc hsz _⟩,by simp[intOf]; omega⟩
  ·have HZ2:=zh (show z=false by
    rw[<-uh HZ,has];apply Bool.eq_false_iff.2;intro hc;rw[List.contains_iff_mem,secs,List.mem_map] at hc;obtain⟨y,hy,e⟩:=hc;obtain⟨j,hj,rfl⟩:=List.getElem_of_mem hy;exact uh HNO j hj (by omega) e)
   clear h3;go_wp2
   go_ret
   exact⟨z04 (uh HZ2).symm,hb⟩
def FCur (w:World) (b:Nat) (s:ByteArray) (p:Nat):Prop:=w.heap[b]?=some (.cells #[.string s,.int .i64 p] 127 (0,0))
theorem FCur.cells {w:World} {b:Nat} {s:ByteArray} {p:Nat} (h:FCur w b s p):w.cell? ⟨b,0,none⟩=some (.string s)/\w.cell? ⟨b,1,none⟩=some (.int .i64 p)/\w.frozen? ⟨b,0,none⟩=false/\w.frozen? ⟨b,1,none⟩=false/\b < w.heap.size:=
 ⟨(duo0 h).1.1,(duo0 h).1.2,(duo0 h).2.1.1,(duo0 h).2.1.2,(duo0 h).2.2⟩
theorem FCur.set {w:World} {b:Nat} {s:ByteArray} {p:Nat} (h:FCur w b s p) (q:Nat):FCur (w.setCell ⟨b,1,none⟩ (.int .i64 q)) b s q:=by
 unfold FCur at h ⊢;rw[heap_setCell_same w b 1 _ _ _ h]; rfl
theorem FCur.typed {w:World} {b:Nat} {s:ByteArray} {p:Nat} (h:FCur w b s p):Typed w b 127:=⟨_,_,h⟩
theorem FCur.gr {w w':World} {b:Nat} {s:ByteArray} {p:Nat} {r:Option Nat} (h:FCur w b s p) (hg:w.grownBy w' r) (hn:some b≠r):FCur w' b s p:=by
 have:=h.cells.2.2.2.2;unfold FCur at h ⊢;rw[hg.block b this hn]; exact h
theorem FCur.setCell {w:World} {b:Nat} {s:ByteArray} {p:Nat} (h:FCur w b s p) (g j:Nat) (u:Value) (hg:b≠g):FCur (w.setCell ⟨g,j,none⟩ u) b s p:=by
 unfold FCur at h ⊢;rw[Below.heap_setCell _ _ _ _ hg]; exact h
theorem FCur.own {b:Nat} {w1 w2:World} {s:ByteArray} {p:Nat} {o:Obj} {v:Value} {e:TypeId} {size n:Nat} {xs:List Value} {B:Nat} (h:FCur w1 b s p)
  (hown:w1.ownsRow B e size v n xs) (hg:(w1.alloc o).grownBy w2 v.ownBlock) (hne:e≠127):FCur w2 b s p:=
 (z0f hown hg hne _ _ _ h).trans h
def nx (s:ByteArray) (p:Nat):Nat:=if p < s.size then p+1 else p
set_option maxHeartbeats 1000000 in
theorem fnext_any (b:Nat) (s:ByteArray) (p:Nat) (w:World) (h:FCur w b s p) (hs:s.size<=1000) :
  Calls Tryz.prog 99 #[.pointer (some ⟨b,0,none⟩)] w fun e w'=>e=.returned (.int .u8 (pk s p))/\FCur w' b s (nx s p)/\w.grownBy w' (some b):=by
 have HC:=zh h;obtain⟨h0,h1,f0,f1,hb⟩:=h.cells;clear h;by_cases hlt:p < s.size
 ·have HP:=zh (pk_in s p hlt)
  have HN:=zh (show nx s p=p+1 by unfold nx; rw[if_pos hlt]);have d:decide ((s.size:Int)<=(p:Int))=false:=by simp; omega
  have d0:(0:Int)<=p:=by omega
  have d1:(p:Int) < s.size:=by omega
  go_enter Tryz.func99,Tryz.ntmps99
  go_wp2
  go_quiet (fail)
  go_wp2
  go_quiet (fail)
  go_wp2
  go_ret
  have hcast:(p:Int)+1=((p+1:Nat):Int):=by omega
  rw[hcast];refine⟨z2i (by rw[uh HP]),?_,z1e (z3l _ _ _) (gr_set _ _ _ _)⟩;rw[uh HN];exact FCur.set ((uh HC).gr (z3l _ _ none) (by simp)) (p+1)
 ·have HP:=zh (pk_end s p hlt)
  have HN:=zh (show nx s p=p by unfold nx; rw[if_neg hlt]);have d:decide ((s.size:Int)<=(p:Int))=true:=by simp; omega
  go_enter Tryz.func99,Tryz.ntmps99
  go_wp2
  go_quiet (fail)
  go_wp2
  go_ret
  exact⟨z2i (by rw[uh HP]; rfl),by rw[uh HN]; exact(uh HC).gr (z3l _ _ none) (by simp),z3l _ _ _⟩
set_option maxHeartbeats 400000 in
theorem HasTrain_any (v:Value) (L:Lay) (x:Nat) (w:World) (h:CLay w v L) :
  Calls Tryz.prog 144 #[v,.int .i64 x] w fun e w'=>e=.returned (.bool (decide (x < L.tns.length)))/\Below w.heap.size w w':=by
 obtain⟨vs,vr,vt,rfl,-,-,hS⟩:=h;obtain⟨a1,d1,rfl,-,hm,-⟩:=SlAt.open hS;unfold maxLen at hm;clear hS;have d:decide ((0:Int)<=(x:Int))=true:=by simp
 generalize hz:decide (x < L.tns.length)=z;have HZ:=zh (show decide ((x:Int) < L.tns.length)=z by rw[<-hz,decide_eq_decide]; omega);clear hz;go_enter Tryz.func144,Tryz.ntmps144
 go_wp2
 all_goals
  go_ret
  exact⟨z04 (by have:=uh HZ; first | exact this | (simp_all; done) | (simp_all; omega)),z01 _ _⟩
set_option maxHeartbeats 400000 in
theorem HasTrain_neg (v:Value) (L:Lay) (x:Int) (w:World) (h:CLay w v L) (hx:x < 0) :
  Calls Tryz.prog 144 #[v,.int .i64 x] w fun e w'=>e=.returned (.bool false)/\Below w.heap.size w w':=by
 obtain⟨vs,vr,vt,rfl,-,-,hS⟩:=h;obtain⟨a1,d1,rfl,-,hm,-⟩:=SlAt.open hS;clear hS;have d:decide ((0:Int)<=x)=false:=by simp; omega
 clear hx;go_enter Tryz.func144,Tryz.ntmps144
 go_wp2
 go_ret
 exact⟨rfl,z01 _ _⟩
set_option maxHeartbeats 400000 in
theorem HasRoute_neg (v:Value) (L:Lay) (x:Int) (w:World) (h:CLay w v L) (hx:x < 0) :
  Calls Tryz.prog 145 #[v,.int .i64 x] w fun e w'=>e=.returned (.bool false)/\Below w.heap.size w w':=by
 obtain⟨vs,vr,vt,rfl,-,hS,-⟩:=h;obtain⟨a1,d1,rfl,-,hm,-⟩:=SlAt.open hS;clear hS;have d:decide ((0:Int)<=x)=false:=by simp; omega
 clear hx;go_enter Tryz.func145,Tryz.ntmps145
 go_wp2
 go_ret
 exact⟨rfl,z01 _ _⟩
set_option maxHeartbeats 400000 in
theorem HasSection_neg (v:Value) (L:Lay) (x:Int) (w:World) (h:CLay w v L) (hx:x < 0) :
  Calls Tryz.prog 101 #[v,.int .i64 x] w fun e w'=>e=.returned (.bool false)/\Below w.heap.size w w':=by
 obtain⟨vs,vr,vt,rfl,hS,-,-⟩:=h;obtain⟨a1,d1,rfl,-,hm,-⟩:=SlAt.open hS;clear hS;have d:decide ((0:Int)<=x)=false:=by simp; omega
 clear hx;go_enter Tryz.func101,Tryz.ntmps101
 go_wp2
 go_ret
 exact⟨rfl,z01 _ _⟩
set_option maxHeartbeats 400000 in
theorem HasSwitch_neg (v:Value) (L:Lay) (x:Int) (w:World) (h:CLay w v L) (hx:x < 0) :
  Calls Tryz.prog 68 #[v,.int .i64 x] w fun e w'=>e=.returned (.bool false)/\Below w.heap.size w w':=by
 have H1:=zh (fun (wz:World) (hz:Below w.heap.size w wz)=>HasSection_neg _ L x wz (h.below hz) hx);obtain⟨vs,vr,vt,rfl,hS,-,-⟩:=h;obtain⟨a1,d1,rfl,-,hm,h3⟩:=SlAt.open hS;clear hS h3 hx;go_enter Tryz.func68,Tryz.ntmps68
 go_wp2_with fail
 refine(uh H1 _ (z01 w (z0n L _ _ _))).mono ?_;rintro e w1 ⟨rfl,hb⟩;have HB:=zh ((z01 w (z0n L (.slice a1 L.sw.length d1) vr vt)).trans (hb.mono (by simp)));clear hb;go_wp2
 go_ret
 exact⟨rfl,uh HB⟩
def cbase (c:Nat):Nat:=if c=114 then 49 else if c=99 then 65 else 97
theorem num_in {x b n:Nat} (h:b<=x):(numF x b n).isSome=decide (x - b < n):=by
 unfold numF;by_cases h1:x < b+n
 ·rw[if_pos ⟨h,h1⟩,decide_eq_true (by omega)]; rfl
 ·rw[if_neg (by omega),decide_eq_false (by omega)]; rfl
theorem num_out {x b n:Nat} (h:¬b<=x):numF x b n=none:=by
 unfold numF; rw[if_neg (by omega)]
set_option maxHeartbeats 1000000 in
theorem named_any (v:Value) (L:Lay) (c x:Nat) (w:World) (h:CLay w v L) (_hc:c < 256) (_hx:x < 256) :
  Calls Tryz.prog 100 #[v,.int .u8 c,.int .u8 x] w fun e w'=>∃n:Int,e=.returned (.tuple #[.int .i64 n,.bool (L.cmdB c x)])/\(L.cmdB c x=true->n=((x - cbase c:Nat):Int))/\Below w.heap.size w w':=by
 obtain⟨Z,hZ⟩:∃Z,Z=L.cmdB c x:=⟨_,rfl⟩
 rw[<-hZ];unfold Lay.cmdB at hZ;obtain⟨vs,vr,vt,hv,-⟩:=id h;have HL:=zh h;have HA:=zh (fun (wz:World)=>z01 wz (z0n L vs vr vt));clear h;subst hv;have hcb:cbase c=if c=114 then 49 else if c=99 then 65 else 97:=rfl;by_cases h1:c=114
 ·rw[if_pos h1] at hZ hcb
  have b1:((c:Int)==114)=true:=by simp[h1]
  by_cases hlo:49<=x
  ·obtain⟨m,rfl⟩:∃m,x=m+49:=⟨x - 49,by omega⟩
   rw[num_in hlo,Nat.add_sub_cancel] at hZ;have HM:=zh (Nat.add_sub_cancel m 49);have H1:=zh (fun (wz:World) (hz:Below w.heap.size w wz)=>HasTrain_any _ L m wz ((uh HL).below hz));rw[<-hZ] at H1;have HCB:=zh hcb;clear hZ h1 hlo hcb;go_enter Tryz.func100,Tryz.ntmps100
   go_wp2_with fail
   refine(uh H1 _ (uh HA w)).mono ?_;rintro e w1 ⟨rfl,hb1⟩;have HB:=zh ((uh HA w).trans (hb1.mono (by simp)));clear hb1;go_wp2
   go_ret2
   exact⟨(m:Int),by first | rfl | (simp <;> rfl),fun _=>by rw[uh HCB,uh HM],uh HB⟩
  ·rw[num_out hlo] at hZ
   have H1:=zh (fun (wz:World) (hz:Below w.heap.size w wz)=>HasTrain_neg _ L ((x:Int) - 49) wz ((uh HL).below hz) (by omega));have HZ:=zh (show Z=false from hZ);clear hZ h1 hlo hcb;go_enter Tryz.func100,Tryz.ntmps100
   go_wp2_with fail
   refine(uh H1 _ (uh HA w)).mono ?_;rintro e w1 ⟨rfl,hb1⟩;have HB:=zh ((uh HA w).trans (hb1.mono (by simp)));clear hb1;go_wp2
   go_ret2
   exact⟨_,by rw[uh HZ] <;> rfl,fun h=>absurd h (by rw[uh HZ]; simp),uh HB⟩
 ·rw[if_neg h1] at hZ hcb
  have b1:((c:Int)==114)=false:=by simp; omega
  by_cases h2:c=99
  ·rw[if_pos h2] at hZ hcb
   have b2:((c:Int)==99)=true:=by simp[h2]
   by_cases hlo:65<=x
   ·obtain⟨m,rfl⟩:∃m,x=m+65:=⟨x - 65,by omega⟩
    rw[num_in hlo,Nat.add_sub_cancel] at hZ;have HM:=zh (Nat.add_sub_cancel m 65);have H1:=zh (fun (wz:World) (hz:Below w.heap.size w wz)=>HasRoute_any _ L m wz ((uh HL).below hz));rw[<-hZ] at H1;have HCB:=zh hcb;clear hZ h1 h2 hlo hcb;go_enter Tryz.func100,Tryz.ntmps100
    go_wp2_with fail
    refine(uh H1 _ (uh HA w)).mono ?_;rintro e w1 ⟨rfl,hb1⟩;have HB:=zh ((uh HA w).trans (hb1.mono (by simp)));clear hb1;go_wp2
    go_ret2
    exact⟨(m:Int),by first | rfl | (simp <;> rfl),fun _=>by rw[uh HCB,uh HM],uh HB⟩
   ·rw[num_out hlo] at hZ
    have H1:=zh (fun (wz:World) (hz:Below w.heap.size w wz)=>HasRoute_neg _ L ((x:Int) - 65) wz ((uh HL).below hz) (by omega));have HZ:=zh (show Z=false from hZ);clear hZ h1 h2 hlo hcb;go_enter Tryz.func100,Tryz.ntmps100
    go_wp2_with fail
    refine(uh H1 _ (uh HA w)).mono ?_;rintro e w1 ⟨rfl,hb1⟩;have HB:=zh ((uh HA w).trans (hb1.mono (by simp)));clear hb1;go_wp2
    go_ret2
    exact⟨_,by rw[uh HZ] <;> rfl,fun h=>absurd h (by rw[uh HZ]; simp),uh HB⟩
  ·rw[if_neg h2] at hZ hcb
   have b2:((c:Int)==99)=false:=by simp; omega
   by_cases h4:c=109
   ·rw[if_pos h4] at hZ
    have b3:((c:Int)==109)=true:=by simp[h4]
    by_cases hlo:97<=x
    ·obtain⟨m,rfl⟩:∃m,x=m+97:=⟨x - 97,by omega⟩
     have HM:=zh (Nat.add_sub_cancel m 97);have hz2:Z=L.sw.getD m false:=by
      rw[hZ];unfold numF;by_cases hb:m+97 < 97+L.sw.length
      ·rw[if_pos ⟨hlo,hb⟩]
       simp
      ·rw[if_neg (by omega)]
       rw[List.getD_eq_getElem?_getD,List.getElem?_eq_none (by omega)]; rfl
     have H1:=zh (fun (wz:World) (hz:Below w.heap.size w wz)=>z22 _ L m wz ((uh HL).below hz));rw[<-hz2] at H1;have HCB:=zh hcb;clear hZ hz2 h1 h2 h4 hlo hcb;go_enter Tryz.func100,Tryz.ntmps100
     go_wp2_with fail
     refine(uh H1 _ (uh HA w)).mono ?_;rintro e w1 ⟨rfl,hb1⟩;have HB:=zh ((uh HA w).trans (hb1.mono (by simp)));clear hb1;go_wp2
     go_ret2
     exact⟨(m:Int),by first | rfl | (simp <;> rfl),fun _=>by rw[uh HCB,uh HM],uh HB⟩
    ·rw[num_out hlo] at hZ
     have H1:=zh (fun (wz:World) (hz:Below w.heap.size w wz)=>HasSwitch_neg _ L ((x:Int) - 97) wz ((uh HL).below hz) (by omega));have HZ:=zh (show Z=false from hZ);clear hZ h1 h2 h4 hlo hcb;go_enter Tryz.func100,Tryz.ntmps100
     go_wp2_with fail
     refine(uh H1 _ (uh HA w)).mono ?_;rintro e w1 ⟨rfl,hb1⟩;have HB:=zh ((uh HA w).trans (hb1.mono (by simp)));clear hb1;go_wp2
     go_ret2
     exact⟨_,by rw[uh HZ] <;> rfl,fun h=>absurd h (by rw[uh HZ]; simp),uh HB⟩
   ·rw[if_neg h4] at hZ
    have HZ:=zh hZ;have b3:((c:Int)==109)=false:=by simp; omega
    clear hZ h1 h2 h4 hcb;go_enter Tryz.func100,Tryz.ntmps100
    go_wp2
    go_ret2
    exact⟨_,by rw[uh HZ] <;> rfl,fun h=>absurd h (by rw[uh HZ]; simp),uh HA w⟩
def FBox (w:World) (l:Nat) (vc vo vp:Value):Prop:=w.heap[l]?=some (.cells #[vc,vo,vp] 76 (0,0))
def Lay.occL (_L:Lay) (s:ByteArray) (k:Nat):List Bool:=(List.range k).map (fun i=>pk s i==49)
def Lay.repL (L:Lay) (s:ByteArray) (k:Nat):List Nat:=(List.range k).map (L.repF s)
theorem okO_pos {s:ByteArray} {k:Nat} (h:okO s k=true):k < s.size:=by
 apply pk_pos;unfold okO at h;simp at h;omega
set_option maxRecDepth 100000 in
set_option maxHeartbeats 2000000 in
theorem fsections_any (b l:Nat) (v:Value) (L:Lay) (s:ByteArray) (w:World) (hC:FCur w b s 0) (hF:FBox w l (.slice none 0 0) (.slice none 0 0) (.slice none 0 0)) (hL:CLay w v L) (hs:s.size<=64) (hbl:b≠l) :
  Calls Tryz.prog 65 #[.pointer (some ⟨b,0,none⟩),v,.pointer (some ⟨l,0,none⟩)] w fun e w'=>e=.returned (.bool ((List.range L.sw.length).all (okO s)))/\G2 w w' b l ∧
   ((List.range L.sw.length).all (okO s)=true->∃vo,FBox w' l (.slice none 0 0) vo (.slice none 0 0)/\w'.ownsRow w.heap.size 4 1 vo L.sw.length (z17 (L.occL s L.sw.length))/\FCur w' b s L.sw.length/\L.sw.length<=s.size):=by
 obtain⟨vs,vr,vt,rfl,hS,-,-⟩:=hL;obtain⟨a1,d1,rfl,-,hm,-⟩:=SlAt.open hS;unfold maxLen at hm;obtain⟨Z,hZ⟩:∃Z,Z=(List.range L.sw.length).all (okO s):=⟨_,rfl⟩
 rw[<-hZ];have HZ:=zh hZ;have hbw:=hC.cells.2.2.2.2;have hlw:=z0g hF;obtain⟨i0,hi0⟩:=info_parts Tryz.infoBool;have HI:=zh hi0;have A:=zh (And.intro (hC.gr (z51 (gr_refl w none) (z0n L (.slice a1 L.sw.length d1) vr vt)) (by simp)) (And.intro (show FBox (w.alloc (z0n L (.slice a1 L.sw.length d1) vr vt)) l _ _ _ from (Below.heap_alloc _ _ _ hlw).trans hF) ((G2.refl w b l).alloc (z0n L (.slice a1 L.sw.length d1) vr vt))));clear hi0 hS hZ hC hF;go_enter Tryz.func65,Tryz.ntmps65
 go_wp2
 go_loopw [11] (fun i wr=>∃k:Nat,∃vo,i=.int .i64 k/\k<=L.sw.length/\k<=s.size/\(∀j,j < k->okO s j=true)/\FBox wr l (.slice none 0 0) vo (.slice none 0 0)/\wr.ownsRow w.heap.size 4 1 vo k (z17 (L.occL s k))/\FCur wr b s k/\G2 w wr b l) (fun i _=>L.sw.length - (intOf i).toNat)
 case atStart=>exact⟨0,_,rfl,Nat.zero_le _,Nat.zero_le _,fun j h=>by omega,(uh A).2.1,World.ownsRow_nil _ _ _ _,(uh A).1,(uh A).2.2⟩
 case round=>
  clear A;obtain⟨k,vo,rfl,hk,hks,hno,hF,hown,hC,hG⟩:=hrel;have hsz:=hG.2.2.2.1;by_cases hlt:k < L.sw.length
  ·have l1:(k:Int) < L.sw.length:=by omega
   have H1:=zh (fnext_any b s k wr hC (by omega));have HNO:=zh hno;have F:=zh (And.intro hF (And.intro hG hC.typed));clear hno hF hG hC;go_wp2_with fail
   refine(uh H1).mono ?_;rintro e w1 ⟨rfl,hC1,hg1⟩;have hF1:=z1t (uh F).1 hg1 (Ne.symm hbl);have hG1:=(uh F).2.1.gr hg1;have hown1:=z06 hown (z3o (uh F).2.2 hg1 (by decide));have hsz1:=hG1.2.2.2.1;obtain⟨⟨y0,y1,y2⟩,⟨f0,f1,f2⟩,ql⟩:=tri0 hF1;have HP:=zh (show okO s k=(pk s k==48||pk s k==49) from rfl);have HOC:=zh (show z17 (L.occL s (k+1))=z17 (L.occL s k)++[.bool (pk s k==49)] by
    unfold Lay.occL;rw[List.range_succ,List.map_append]; exact z3c _ _)
   have HNN:=zh (show okO s k=true->∀j,j < k+1->okO s j=true by
    intro h j hj;by_cases hj':j < k
    ·exact uh HNO j hj'
    ·obtain rfl:j=k:=by omega
     exact h)
   have HFL:=zh (show okO s k=false->Z=false by
    intro h; rw[uh HZ]; exact ar_false hlt h)
   have HPS:=zh (@okO_pos s k);have HC1:=zh hC1;have F1:=zh (And.intro hF1 hG1);obtain⟨av,cv,hvs⟩:=z02 hown1;subst hvs;clear hF1 hG1 hg1 hC1 hown H1 F;obtain⟨c,hc⟩:∃c,pk s k=c:=⟨_,rfl⟩
   rw[hc] at HP HOC ⊢;clear hc;by_cases c48:c=48
   ·have hok:okO s k=true:=by rw[uh HP,c48]; rfl
    have b1:((c:Int) != 48)=false:=by simp[c48]
    have b2:((c:Int)==49)=false:=by simp[c48]
    have b3:(c==49)=false:=by simp[c48]
    rw[b3] at HOC;have hkz:=uh HPS hok;have HN2:=zh (uh HNN hok);have HNX:=zh (show nx s k=k+1 by unfold nx; rw[if_pos hkz]);clear c48 hok b3;go_wp2_with (at_builtin; refine wpList_append_own _ rfl _ _ 48 rfl w.heap.size 4 i0 (.bool false) 1 1 Tryz.underlying48 (uh HI).1 (uh HI).2.1 (uh HI).2.2.1 (uh HI).2.2.2 rfl (by decide) _ _ _ rfl (hown1.alloc _) ⟨w1.heap.size,0,none⟩ 1 1 [.bool false] rfl rfl (z0q _ _ _) (z0a rfl) (by unfold maxLen; omega) (by omega) (by simp; omega) ?_; intro v3 w3 hown3 hgrow3 _; have hF3:FBox w3 l _ _ _:=(z0f hown1 hgrow3 (by decide) _ _ _ (uh F1).1).trans (uh F1).1; have HC3:=zh ((uh HC1).own hown1 hgrow3 (by decide)); have HG3:=zh ((uh F1).2.own (Nat.le_refl _) hown1 hgrow3); obtain⟨av',cv',hv'⟩:=z02 hown3; subst hv'; clear y0 y1 y2 f0 f1 f2 ql; obtain⟨⟨y0,y1,y2⟩,⟨f0,f1,f2⟩,ql⟩:=tri0 hF3; have HF3:=zh hF3; clear hF3)
    refine⟨⟨k+1,_,by go_num,by omega,hkz,uh HN2,z0b _ (uh HF3),?_,?_,(uh HG3).set _ _⟩,by simp[intOf]; omega⟩
    ·rw[uh HOC]
     exact z3e hown3 l 1 _ ⟨_,_,uh HF3⟩ (by decide)
    ·rw[<-uh HNX]
     exact(uh HC3).setCell l 1 _ hbl
   ·have b1:((c:Int) != 48)=true:=by simp; omega
    by_cases c49:c=49
    ·have hok:okO s k=true:=by rw[uh HP,c49]; rfl
     have b2:((c:Int)==49)=true:=by simp[c49]
     have b4:((c:Int) != 49)=false:=by simp[c49]
     have b3:(c==49)=true:=by simp[c49]
     rw[b3] at HOC;have hkz:=uh HPS hok;have HN2:=zh (uh HNN hok);have HNX:=zh (show nx s k=k+1 by unfold nx; rw[if_pos hkz]);clear c48 hok b3 c49;go_wp2_with (at_builtin; refine wpList_append_own _ rfl _ _ 48 rfl w.heap.size 4 i0 (.bool false) 1 1 Tryz.underlying48 (uh HI).1 (uh HI).2.1 (uh HI).2.2.1 (uh HI).2.2.2 rfl (by decide) _ _ _ rfl (hown1.alloc _) ⟨w1.heap.size,0,none⟩ 1 1 [.bool true] rfl rfl (z0q _ _ _) (z0a rfl) (by unfold maxLen; omega) (by omega) (by simp; omega) ?_; intro v3 w3 hown3 hgrow3 _; have hF3:FBox w3 l _ _ _:=(z0f hown1 hgrow3 (by decide) _ _ _ (uh F1).1).trans (uh F1).1; have HC3:=zh ((uh HC1).own hown1 hgrow3 (by decide)); have HG3:=zh ((uh F1).2.own (Nat.le_refl _) hown1 hgrow3); obtain⟨av',cv',hv'⟩:=z02 hown3; subst hv'; clear y0 y1 y2 f0 f1 f2 ql; obtain⟨⟨y0,y1,y2⟩,⟨f0,f1,f2⟩,ql⟩:=tri0 hF3; have HF3:=zh hF3; clear hF3)
     refine⟨⟨k+1,_,by go_num,by omega,hkz,uh HN2,z0b _ (uh HF3),?_,?_,(uh HG3).set _ _⟩,by simp[intOf]; omega⟩
     ·rw[uh HOC]
      exact z3e hown3 l 1 _ ⟨_,_,uh HF3⟩ (by decide)
     ·rw[<-uh HNX]
      exact(uh HC3).setCell l 1 _ hbl
    ·have hok:okO s k=false:=by rw[uh HP]; simp[c48,c49]
     have b4:((c:Int) != 49)=true:=by simp; omega
     have HZ2:=zh (uh HFL hok);clear c48 hok c49;go_wp2
     go_ret
     exact⟨z04 (uh HZ2).symm,(uh F1).2,fun h=>absurd h (by rw[uh HZ2]; simp)⟩
  ·obtain rfl:k=L.sw.length:=by omega
   have HZ2:=zh (show Z=true by rw[uh HZ]; exact ar_true hno);have F:=zh (And.intro hF (And.intro hown (And.intro hC (And.intro hks hG))));clear hno hF hown hC hG;go_wp2
   go_ret
   exact⟨z04 (uh HZ2).symm,(uh F).2.2.2.2,fun _=>⟨_,(uh F).1,(uh F).2.1,(uh F).2.2.1,(uh F).2.2.2.1⟩⟩
theorem posR_succ (L:Lay) (k:Nat) (h:k < L.sw.length):L.posR (k+1)=L.posR k+if L.sw[k] then 1 else 0:=by
 unfold Lay.posR;rw[cntT_succ _ _ h]; omega
theorem isRep_pos {s:ByteArray} {p:Nat} (h:isRep (pk s p)=true):p < s.size:=by
 apply pk_pos;unfold isRep at h;simp at h;omega
set_option maxRecDepth 100000 in
set_option maxHeartbeats 2000000 in
theorem fswitches_any (b l:Nat) (v:Value) (L:Lay) (s:ByteArray) (vo:Value) (w:World) (hC:FCur w b s L.sw.length) (hF:FBox w l (.slice none 0 0) vo (.slice none 0 0)) (hL:CLay w v L) (hs:s.size<=64) (hps:L.sw.length<=s.size) (hbl:b≠l) :
  Calls Tryz.prog 66 #[.pointer (some ⟨b,0,none⟩),v,.pointer (some ⟨l,0,none⟩)] w fun e w'=>e=.returned (.bool ((List.range L.sw.length).all (L.okR s)))/\G2 w w' b l ∧
   ((List.range L.sw.length).all (L.okR s)=true->∃vp,FBox w' l (.slice none 0 0) vo vp/\w'.ownsRow w.heap.size 5 1 vp L.sw.length (bytsV (L.repL s L.sw.length))/\FCur w' b s L.bgn/\L.bgn<=s.size):=by
 obtain⟨vs,vr,vt,rfl,hS,-,-⟩:=hL;have HS:=zh hS;obtain⟨a1,d1,rfl,-,hm,-⟩:=SlAt.open hS;unfold maxLen at hm;obtain⟨Z,hZ⟩:∃Z,Z=(List.range L.sw.length).all (L.okR s):=⟨_,rfl⟩
 rw[<-hZ];have HZ:=zh hZ;have hbw:=hC.cells.2.2.2.2;have hlw:=z0g hF;obtain⟨i0,hi0⟩:=info_parts Tryz.infoByte;have HI:=zh hi0;have HT:=zh (And.intro hC.typed (show Typed w l 76 from ⟨_,_,hF⟩));have hp0:L.posR 0=L.sw.length:=by simp[Lay.posR,cntT]
 have A:=zh (And.intro (hC.gr (z51 (gr_refl w none) (z0n L (.slice a1 L.sw.length d1) vr vt)) (by simp)) (And.intro (show FBox (w.alloc (z0n L (.slice a1 L.sw.length d1) vr vt)) l _ _ _ from (Below.heap_alloc _ _ _ hlw).trans hF) (And.intro ((G2.refl w b l).alloc (z0n L (.slice a1 L.sw.length d1) vr vt)) hp0)));clear hi0 hS hZ hC hF hp0;go_enter Tryz.func66,Tryz.ntmps66
 go_wp2
 go_loopw [13] (fun i wr=>∃k:Nat,∃vp,i=.int .i64 k/\k<=L.sw.length/\L.posR k<=s.size/\(∀j,j < k->L.okR s j=true)/\FBox wr l (.slice none 0 0) vo vp/\wr.ownsRow w.heap.size 5 1 vp k (bytsV (L.repL s k))/\FCur wr b s (L.posR k)/\G2 w wr b l) (fun i _=>L.sw.length - (intOf i).toNat)
 case atStart=>exact⟨0,_,rfl,Nat.zero_le _,by rw[(uh A).2.2.2]; exact hps,fun j h=>by omega,(uh A).2.1,World.ownsRow_nil _ _ _ _,by rw[(uh A).2.2.2]; exact(uh A).1,(uh A).2.2.1⟩
 case round=>
  clear A;obtain⟨k,vp,rfl,hk,hks,hno,hF,hown,hC,hG⟩:=hrel;have hsz:=hG.2.2.2.1;by_cases hlt:k < L.sw.length
  ·have l1:(k:Int) < L.sw.length:=by omega
   have l0:(0:Int)<=k:=by omega
   have H1:=zh (fnext_any b s (L.posR k) wr hC (by omega));have HNO:=zh hno;have F:=zh (And.intro hF (And.intro hG (And.intro hC.typed hC)));obtain⟨ao',c',he,-,-,s3⟩:=SlAt.open ((uh HS).keep (z3p (uh HT).1 (uh HT).2 hG (by decide) (by decide)));obtain⟨gs,os,hao,hgs,cs,-,hCs,hcs⟩:=s3 k hlt;simp only[Value.slice.injEq,true_and] at he;obtain⟨rfl,rfl⟩:=he;subst hao;unfold CBool at hCs;subst hCs;have x0:=hcs 0 (by omega);simp at x0;have HOK:=zh (show L.okR s k=(!L.sw[k]||isRep (pk s (L.posR k))) by
    unfold Lay.okR; rw[z1f _ _ _ hlt])
   have HRP:=zh (show L.repF s k=if L.sw[k] then pk s (L.posR k) else 0 by unfold Lay.repF; rw[z1f _ _ _ hlt]);have HPR:=zh (posR_succ L k hlt);have HOC:=zh (show bytsV (L.repL s (k+1))=bytsV (L.repL s k)++[.int .u8 (L.repF s k:Nat)] by
    unfold Lay.repL;rw[List.range_succ,List.map_append]; exact z2g _ _)
   have HNN:=zh (show L.okR s k=true->∀j,j < k+1->L.okR s j=true by
    intro h j hj;by_cases hj':j < k
    ·exact uh HNO j hj'
    ·obtain rfl:j=k:=by omega
     exact h)
   have HFL:=zh (show L.okR s k=false->Z=false by
    intro h; rw[uh HZ]; exact ar_false hlt h)
   clear hno hF hG hC hcs s3;obtain⟨av,cv,hvs⟩:=z02 hown;obtain⟨hb,hhb⟩:∃hb,L.sw[k]=hb:=⟨_,rfl⟩
   rw[hhb] at x0 HOK HRP HPR;clear hhb;cases hb with
   | false=>
    have hok:L.okR s k=true:=by rw[uh HOK]; rfl
    have HN2:=zh (uh HNN hok);have HR0:=zh (show L.repF s k=0 by rw[uh HRP]; rfl);have HPP:=zh (show L.posR (k+1)=L.posR k by rw[uh HPR]; rfl);subst hvs;obtain⟨⟨y0,y1,y2⟩,⟨f0,f1,f2⟩,ql⟩:=tri0 (uh F).1;clear hok;go_wp2_with (at_builtin; refine wpList_append_own _ rfl _ _ 74 rfl w.heap.size 5 i0 (.int .u8 0) 1 1 Tryz.underlying74 (uh HI).1 (uh HI).2.1 (uh HI).2.2.1 (uh HI).2.2.2 rfl (by decide) _ _ _ rfl (hown.alloc _) ⟨wr.heap.size,0,none⟩ 1 1 [.int .u8 0] rfl rfl (z0q _ _ _) (z0a rfl) (by unfold maxLen; omega) (by omega) (by simp; omega) ?_; intro v3 w3 hown3 hgrow3 _; have hF3:FBox w3 l _ _ _:=(z0f hown hgrow3 (by decide) _ _ _ (uh F).1).trans (uh F).1; have HC3:=zh ((uh F).2.2.2.own hown hgrow3 (by decide)); have HG3:=zh ((uh F).2.1.own (Nat.le_refl _) hown hgrow3); obtain⟨av',cv',hv'⟩:=z02 hown3; subst hv'; clear y0 y1 y2 f0 f1 f2 ql; obtain⟨⟨y0,y1,y2⟩,⟨f0,f1,f2⟩,ql⟩:=tri0 hF3; have HF3:=zh hF3; clear hF3)
    refine⟨⟨k+1,_,by go_num,by omega,by rw[uh HPP]; exact hks,uh HN2,z0b _ (uh HF3),?_,?_,(uh HG3).set _ _⟩,by simp[intOf]; omega⟩
    ·rw[uh HOC,uh HR0]
     exact z3e hown3 l 2 _ ⟨_,_,uh HF3⟩ (by decide)
    ·rw[uh HPP]
     exact(uh HC3).setCell l 2 _ hbl
   | true=>
    have HR0:=zh (show L.repF s k=pk s (L.posR k) by rw[uh HRP]; rfl);have HPP:=zh (show L.posR (k+1)=L.posR k+1 by rw[uh HPR]; rfl);have HO1:=zh (show L.okR s k=isRep (pk s (L.posR k)) by rw[uh HOK]; rfl);have HPS:=zh (@isRep_pos s (L.posR k));go_wp2_with fail
    refine(uh H1).mono ?_;rintro e w1 ⟨rfl,hC1,hg1⟩;have hF1:=z1t (uh F).1 hg1 (Ne.symm hbl);have hG1:=(uh F).2.1.gr hg1;have hown1:=z06 hown (z3o (uh F).2.2.1 hg1 (by decide));have hsz1:=hG1.2.2.2.1;obtain⟨⟨y0,y1,y2⟩,⟨f0,f1,f2⟩,ql⟩:=tri0 hF1;have HC1:=zh hC1;have F1:=zh (And.intro hF1 hG1);subst hvs;clear hF1 hG1 hg1 hC1 hown H1 F x0;obtain⟨c,hc⟩:∃c,pk s (L.posR k)=c:=⟨_,rfl⟩
    rw[hc] at HR0 HO1 HPS ⊢;have hc256:c < 256:=by rw[<-hc]; exact pk_lt _ _
    clear hc HRP HOK;have hcase:(c=43\/c=45\/c=63)\/(c≠43/\c≠45/\c≠63):=by omega
    rcases hcase with hcase | ⟨n1,n2,n3⟩
    ·have hir:isRep c=true:=by unfold isRep; rcases hcase with rfl | rfl | rfl <;> rfl
     have hok:L.okR s k=true:=by rw[uh HO1]; exact hir
     have hkz:=uh HPS hir;have HN2:=zh (uh HNN hok);have HNX:=zh (show nx s (L.posR k)=L.posR k+1 by unfold nx; rw[if_pos hkz]);clear hok hir;have bcase:(((c:Int) != 43)=false)\/(((c:Int) != 43)=true/\((c:Int) != 45)=false)\/(((c:Int) != 43)=true/\((c:Int) != 45)=true/\((c:Int) != 63)=false):=by
      rcases hcase with rfl | rfl | rfl
      ·left; rfl
      ·right; left; exact⟨rfl,rfl⟩
      ·right; right; exact⟨rfl,rfl,rfl⟩
     clear hcase;rcases bcase with b1 | ⟨b1,b2⟩ | ⟨b1,b2,b3⟩
     all_goals
      go_wp2_with (at_builtin; refine wpList_append_own _ rfl _ _ 74 rfl w.heap.size 5 i0 (.int .u8 0) 1 1 Tryz.underlying74 (uh HI).1 (uh HI).2.1 (uh HI).2.2.1 (uh HI).2.2.2 rfl (by decide) _ _ _ rfl (hown1.alloc _) ⟨w1.heap.size,0,none⟩ 1 1 [.int .u8 (c:Nat)] rfl rfl (z0q _ _ _) (z0a rfl) (by unfold maxLen; omega) (by omega) (by simp; omega) ?_; intro v3 w3 hown3 hgrow3 _; have hF3:FBox w3 l _ _ _:=(z0f hown1 hgrow3 (by decide) _ _ _ (uh F1).1).trans (uh F1).1; have HC3:=zh ((uh HC1).own hown1 hgrow3 (by decide)); have HG3:=zh ((uh F1).2.own (Nat.le_refl _) hown1 hgrow3); obtain⟨av',cv',hv'⟩:=z02 hown3; subst hv'; clear y0 y1 y2 f0 f1 f2 ql; obtain⟨⟨y0,y1,y2⟩,⟨f0,f1,f2⟩,ql⟩:=tri0 hF3; have HF3:=zh hF3; clear hF3)
      refine⟨⟨k+1,_,by go_num,by omega,by rw[uh HPP]; exact hkz,uh HN2,z0b _ (uh HF3),?_,?_,(uh HG3).set _ _⟩,by simp[intOf]; omega⟩
      ·rw[uh HOC,uh HR0]
       exact z3e hown3 l 2 _ ⟨_,_,uh HF3⟩ (by decide)
      ·rw[uh HPP,<-uh HNX]
       exact(uh HC3).setCell l 2 _ hbl
    ·have hok:L.okR s k=false:=by rw[uh HO1]; unfold isRep; simp[n1,n2,n3]
     have b1:((c:Int) != 43)=true:=by simp; omega
     have b2:((c:Int) != 45)=true:=by simp; omega
     have b3:((c:Int) != 63)=true:=by simp; omega
     have HZ2:=zh (uh HFL hok);clear n1 n2 n3 hok;go_wp2
     go_ret
     exact⟨z04 (uh HZ2).symm,(uh F1).2,fun h=>absurd h (by rw[uh HZ2]; simp)⟩
  ·obtain rfl:k=L.sw.length:=by omega
   have HZ2:=zh (show Z=true by rw[uh HZ]; exact ar_true hno);have HBG:=zh (show L.posR L.sw.length=L.bgn by unfold Lay.posR Lay.bgn; rw[List.take_length]);have F:=zh (And.intro hF (And.intro hown (And.intro hC (And.intro hks hG))));clear hno hF hown hC hG;go_wp2
   go_ret
   exact⟨z04 (uh HZ2).symm,(uh F).2.2.2.2,fun _=>⟨_,(uh F).1,(uh F).2.1,by rw[<-uh HBG]; exact(uh F).2.2.1,by rw[<-uh HBG]; exact(uh F).2.2.2.1⟩⟩
def VRt (w:World) (v:Value) (r:Rt):Prop:=∃vp vf,v=.agg #[.int .i64 r.foot,vp,vf]/\Items w vp r.path/\Items w vf r.flank
theorem VRt.below {w w':World} {v:Value} {r:Rt} (h:VRt w v r) (k:Below w.heap.size w w'):VRt w' v r:=by
 obtain⟨vp,vf,e,a,b⟩:=h;exact⟨vp,vf,e,a.keep (.below k),b.keep (.below k)⟩
set_option maxHeartbeats 400000 in
theorem Last_any (v:Value) (r:Rt) (w:World) (h:VRt w v r) (hne:r.path≠[]) :
  Calls Tryz.prog 180 #[v] w fun e w'=>e=.returned (.int .i64 (lastN r.path:Nat))/\Below w.heap.size w w':=by
 obtain⟨vp,vf,rfl,hP,-⟩:=h;obtain⟨ao,cap,rfl,h1,h2,h3⟩:=SlAt.open hP;unfold maxLen at h2;have hpos:0 < r.path.length:=List.length_pos_iff.2 hne;have hlt:r.path.length - 1 < r.path.length:=by omega
 obtain⟨g,off,rfl,hg,cs,-,hC,hc⟩:=h3 _ hlt;unfold CItem itemV at hC;subst hC;have hc0:=hc 0 (by omega);simp at hc0;have hlast:lastN r.path=r.path[r.path.length - 1].1:=by
  unfold lastN;rw[List.getLastD_eq_getLast?,List.getLast?_eq_getElem?,List.getElem?_eq_getElem hlt]; rfl
 rw[<-hlast] at hc0;clear hc h3 hP hlast hne;have hz:((r.path.length:Int)==0)=false:=beq_eq_false_iff_ne.2 (by omega);generalize r.path=p at *;go_enter Tryz.func180,Tryz.ntmps180
 go_wp2
 go_ret
 exact⟨rfl,z01 _ _⟩
theorem two_lay {w wr:World} {L:Lay} {vh vr vt:Value} {o2:Obj} (hb:Below (w.heap.size+2) ((w.alloc (z0n L vh vr vt)).alloc o2) wr) :
  wr.cell? ⟨w.heap.size,0,none⟩=some (.int .i64 L.T)/\wr.cell? ⟨w.heap.size,1,none⟩=some (.int .i64 L.D)/\wr.cell? ⟨w.heap.size,2,none⟩=some (.int .i64 L.Q) ∧
  wr.cell? ⟨w.heap.size,3,none⟩=some vh/\wr.cell? ⟨w.heap.size,4,none⟩=some vr/\wr.cell? ⟨w.heap.size,5,none⟩=some vt:=by
 have h:=blk1 w (z0n L vh vr vt) o2;exact⟨z1d hb (by omega) h 0,z1d hb (by omega) h 1,z1d hb (by omega) h 2,z1d hb (by omega) h 3,z1d hb (by omega) h 4,z1d hb (by omega) h 5⟩
theorem two_tri {w wr:World} {o1:Obj} {c0 c1 c2:Value} {t:TypeId} (hb:Below (w.heap.size+2) ((w.alloc o1).alloc (.cells #[c0,c1,c2] t)) wr) :
  (wr.cell? ⟨w.heap.size+1,0,none⟩=some c0/\wr.cell? ⟨w.heap.size+1,1,none⟩=some c1/\wr.cell? ⟨w.heap.size+1,2,none⟩=some c2) ∧
  (wr.frozen? ⟨w.heap.size+1,0,none⟩=false/\wr.frozen? ⟨w.heap.size+1,1,none⟩=false/\wr.frozen? ⟨w.heap.size+1,2,none⟩=false):=by
 have h:=blk2 w o1 (.cells #[c0,c1,c2] t);exact⟨⟨z1d hb (by omega) h 0,z1d hb (by omega) h 1,z1d hb (by omega) h 2⟩,⟨blk_free hb (by omega) h 0,blk_free hb (by omega) h 1,blk_free hb (by omega) h 2⟩⟩
set_option maxHeartbeats 400000 in
theorem RouteAt_any (v:Value) (L:Lay) (x:Nat) (w:World) (h:CLay w v L) :
  Calls Tryz.prog 181 #[v,.int .i64 x] w fun e w'=>∃(t:Int) (a1 a2:Option Addr) (n1 n2 c1 c2:Nat),e=.returned (.tuple #[.agg #[.int .i64 t,.slice a1 n1 c1,.slice a2 n2 c2],.bool (decide (x < L.rts.length))]) ∧
   (x < L.rts.length->VRt w' (.agg #[.int .i64 t,.slice a1 n1 c1,.slice a2 n2 c2]) (L.rt x))/\Below w.heap.size w w':=by
 have HL:=zh h;obtain⟨vs,vr,vt,rfl,-,hR,-⟩:=h;obtain⟨ao,cap,rfl,-,hm,h3⟩:=SlAt.open hR;have H1:=zh (fun (wz:World) (hz:Below w.heap.size w wz)=>HasRoute_any _ L x wz ((uh HL).below hz));unfold maxLen at hm;clear hR;by_cases hx:x < L.rts.length
 ·obtain⟨g,off,rfl,hg,cs,-,hC,hc⟩:=h3 x hx
  obtain⟨vp,vf,rfl,hP,hF⟩:=hC;have hc0:=hc 0 (by omega);have hc1:=hc 1 (by omega);have hc2:=hc 2 (by omega);simp at hc0 hc1 hc2;have HV:=zh (show VRt w (.agg #[.int .i64 L.rts[x].foot,vp,vf]) L.rts[x] from ⟨_,_,rfl,hP,hF⟩);obtain⟨a1,d1,rfl,-,-,-⟩:=SlAt.open hP;obtain⟨a2,d2,rfl,-,-,-⟩:=SlAt.open hF;rw[show decide (x < L.rts.length)=true from decide_eq_true hx] at H1 ⊢;rw[rt_eq L x hx];have l0:(0:Int)<=x:=by omega
  have l2:(x:Int) < L.rts.length:=by omega
  clear hc h3 hP hF HL;generalize L.rts[x]=R at *;go_enter Tryz.func181,Tryz.ntmps181
  go_wp2_with fail
  refine(uh H1 _ (z08 (Below.refl _ _))).mono ?_;rintro e w1 ⟨rfl,hb⟩;have hb2:Below (w.heap.size+2) ((w.alloc (z0n L vs (.slice (some ⟨g,off,none⟩) L.rts.length cap) vt)).alloc (.cells #[.int .i64 0,.slice none 0 0,.slice none 0 0] 113)) w1:=hb.mono (by simp);obtain⟨q0,q1,q2,q3,q4,q5⟩:=two_lay hb2;obtain⟨⟨z0,z1,z2⟩,⟨y0,y1,y2⟩⟩:=two_tri hb2;have hbw:=z08 hb2;rw[<-hbw.cell (p:=⟨g,_,none⟩) hg] at hc0 hc1 hc2;have hsz:=z1r hb2;have HB:=zh hbw;clear hb hb2 hbw H1;go_wp2
  refine bodyPost_ret (v:=.tuple #[.agg #[.int .i64 R.foot,.slice a1 R.path.length d1,.slice a2 R.flank.length d2],.bool true]) (by simp[results,Tryz.results181,go_sem,z0,z1,z2]) rfl ?_;have hbf:=(((uh HB).setCell (p:=⟨w.heap.size+1,0,none⟩) (by simp) (.int .i64 R.foot)).setCell (p:=⟨w.heap.size+1,1,none⟩) (by simp) (.slice a1 R.path.length d1)).setCell (p:=⟨w.heap.size+1,2,none⟩) (by simp) (.slice a2 R.flank.length d2)
  first
   | exact⟨_,_,_,_,_,_,_,rfl,(uh HV).below hbf,hbf⟩
   | exact⟨_,_,_,_,_,_,_,rfl,fun _=>(uh HV).below hbf,hbf⟩
 ·rw[show decide (x < L.rts.length)=false from decide_eq_false hx] at H1 ⊢
  have HX:=zh hx;clear h3 HL hx;go_enter Tryz.func181,Tryz.ntmps181
  go_wp2_with fail
  refine(uh H1 _ (z08 (Below.refl _ _))).mono ?_;rintro e w1 ⟨rfl,hb⟩;have hb2:Below (w.heap.size+2) ((w.alloc (z0n L vs (.slice ao L.rts.length cap) vt)).alloc (.cells #[.int .i64 0,.slice none 0 0,.slice none 0 0] 113)) w1:=hb.mono (by simp);obtain⟨⟨z0,z1,z2⟩,⟨y0,y1,y2⟩⟩:=two_tri hb2;have hsz:=z1r hb2;have HB:=zh (z08 hb2);clear hb hb2 H1;go_wp2
  refine bodyPost_ret (v:=.tuple #[.agg #[.int .i64 0,.slice none 0 0,.slice none 0 0],.bool false]) (by simp[results,Tryz.results181,go_sem,z0,z1,z2]) rfl ?_;have hbf:=(((uh HB).setCell (p:=⟨w.heap.size+1,0,none⟩) (by simp) (.int .i64 0)).setCell (p:=⟨w.heap.size+1,1,none⟩) (by simp) (.slice none 0 0)).setCell (p:=⟨w.heap.size+1,2,none⟩) (by simp) (.slice none 0 0);exact⟨_,_,_,_,_,_,_,rfl,fun h=>absurd h (uh HX),hbf⟩
set_option maxHeartbeats 1000000 in
theorem isLast_any (v:Value) (L:Lay) (x:Nat) (w:World) (h:CLay w v L) (hp:L.Paths) :
  Calls Tryz.prog 161 #[v,.int .i64 x] w fun e w'=>e=.returned (.bool (L.endsB x))/\Below w.heap.size w w':=by
 obtain⟨vs,vr,vt,rfl,-,hR,-⟩:=h;obtain⟨ao,cap,rfl,h1,h2,h3⟩:=SlAt.open hR;unfold maxLen at h2;generalize hz:L.endsB x=z;have HZ:=zh hz;have HP:=zh hp;clear hz hp hR;go_enter Tryz.func161,Tryz.ntmps161
 go_wp2
 go_loopw [10] (fun i wr=>∃k:Nat,i=.int .i64 k/\k<=L.rts.length/\(L.rts.take k).any (fun r=>lastN r.path==x)=false/\Below w.heap.size w wr) (fun i _=>L.rts.length - (intOf i).toNat)
 case atStart=>exact⟨0,rfl,Nat.zero_le _,rfl,z01 _ _⟩
 case round=>
  obtain⟨k,rfl,hk,hno,hb⟩:=hrel;have HNO:=zh hno;have HB:=zh hb;have hsz:=hb.size;clear hno;by_cases hlt:k < L.rts.length
  ·obtain⟨g,off,hao,hg,cs,-,hC,hc⟩:=h3 k hlt
   subst hao;obtain⟨vp,vf,rfl,hP,hF⟩:=hC;have hc0:=hc 0 (by omega);have hc1:=hc 1 (by omega);have hc2:=hc 2 (by omega);rw[<-hb.cell (p:=⟨g,_,none⟩) hg] at hc0 hc1 hc2;simp at hc0 hc1 hc2;have hgw:g < wr.heap.size:=by omega
   have HV:=zh (show VRt w (.agg #[.int .i64 L.rts[k].foot,vp,vf]) L.rts[k] from ⟨_,_,rfl,hP,hF⟩);have HA:=zh (z3u (fun r=>lastN r.path==x) L.rts k hlt);have hmem:=zh (List.getElem_mem hlt);have HN:=zh (uh HP L.rts[k] (List.getElem_mem hlt));obtain⟨a1,d1,rfl,-,-,-⟩:=SlAt.open hP;obtain⟨a2,d2,rfl,-,-,-⟩:=SlAt.open hF;clear hc h3 hP hF hb;generalize hRR:L.rts[k]=R at *;clear hRR;go_wp2_with fail
   refine(Last_any _ R _ ((uh HV).below ((uh HB).alloc hsz _)) (uh HN)).mono ?_;rintro e w2 ⟨rfl,hb2⟩;have hb3:=zh (((uh HB).alloc hsz (.cells #[.int .i64 R.foot,.slice a1 R.path.length d1,.slice a2 R.flank.length d2] 113)).trans (hb2.mono (by simp; omega)));clear hb2 hc0 hc1 hc2;by_cases hx:lastN R.path=x
   ·have HZ2:=zh (show z=true by
     rw[<-uh HZ,Lay.endsB,List.any_eq_true];exact⟨R,uh hmem,by simpa using hx⟩)
    have d:((lastN R.path:Int)==(x:Int))=true:=by simp; omega
    clear hx;go_wp2
    go_ret
    exact⟨z04 (uh HZ2).symm,uh hb3⟩
   ·have d:((lastN R.path:Int)==(x:Int))=false:=by simp; omega
    have HX:=zh (show (lastN R.path==x)=false by simpa using hx);clear hx;go_wp2
    exact⟨⟨k+1,by go_num,by omega,by rw[uh HA,uh HNO,uh HX]; rfl,uh hb3⟩,by simp[intOf]; omega⟩
  ·have HZ2:=zh (show z=false by rw[<-uh HZ,Lay.endsB,<-uh HNO,List.take_of_length_le (by omega)])
   clear h3;go_wp2
   go_ret
   exact⟨z04 (uh HZ2).symm,hb⟩
set_option maxHeartbeats 1000000 in
theorem inFlank_any (v:Value) (L:Lay) (x:Nat) (w:World) (h:CLay w v L) :
  Calls Tryz.prog 162 #[v,.int .i64 x] w fun e w'=>e=.returned (.bool (L.flankedB x))/\Below w.heap.size w w':=by
 obtain⟨vs,vr,vt,rfl,-,hR,-⟩:=h;obtain⟨ao,cap,rfl,h1,h2,h3⟩:=SlAt.open hR;unfold maxLen at h2;generalize hz:L.flankedB x=z;have HZ:=zh hz;clear hz hR;go_enter Tryz.func162,Tryz.ntmps162
 go_wp2
 go_loopw [10] (fun i wr=>∃k:Nat,i=.int .i64 k/\k<=L.rts.length/\(L.rts.take k).any (fun r=>has r.flank x)=false/\Below w.heap.size w wr) (fun i _=>L.rts.length - (intOf i).toNat)
 case atStart=>exact⟨0,rfl,Nat.zero_le _,rfl,z01 _ _⟩
 case round=>
  obtain⟨k,rfl,hk,hno,hb⟩:=hrel;have HNO:=zh hno;have HB:=zh hb;have hsz:=hb.size;clear hno;by_cases hlt:k < L.rts.length
  ·obtain⟨g,off,hao,hg,cs,-,hC,hc⟩:=h3 k hlt
   subst hao;obtain⟨vp,vf,rfl,hP,hF⟩:=hC;have hc0:=hc 0 (by omega);have hc1:=hc 1 (by omega);have hc2:=hc 2 (by omega);rw[<-hb.cell (p:=⟨g,_,none⟩) hg] at hc0 hc1 hc2;simp at hc0 hc1 hc2;have hgw:g < wr.heap.size:=by omega
   have HFl:=zh (show Items w vf L.rts[k].flank from hF);have HA:=zh (z3u (fun r=>has r.flank x) L.rts k hlt);have hmem:=zh (List.getElem_mem hlt);obtain⟨a1,d1,rfl,-,-,-⟩:=SlAt.open hP;obtain⟨a2,d2,rfl,-,-,-⟩:=SlAt.open hF;clear hc h3 hP hF hb;generalize hRR:L.rts[k]=R at *;clear hRR;go_wp2_with fail
   refine(z4o _ R.flank x _ ((uh HFl).keep (Keeps.below ((uh HB).alloc hsz _)))).mono ?_;rintro e w2 ⟨rfl,hb2⟩;have hb3:=zh (((uh HB).alloc hsz (.cells #[.int .i64 R.foot,.slice a1 R.path.length d1,.slice a2 R.flank.length d2] 113)).trans (hb2.mono (by simp; omega)));clear hb2 hc0 hc1 hc2;cases hx:has R.flank x with
   | true=>
    have HZ2:=zh (show z=true by
     rw[<-uh HZ,Lay.flankedB,List.any_eq_true];exact⟨R,uh hmem,hx⟩)
    clear hx;go_wp2
    go_ret
    exact⟨z04 (uh HZ2).symm,uh hb3⟩
   | false=>
    have HX:=zh hx;clear hx;go_wp2
    exact⟨⟨k+1,by go_num,by omega,by rw[uh HA,uh HNO,uh HX]; rfl,uh hb3⟩,by simp[intOf]; omega⟩
  ·have HZ2:=zh (show z=false by rw[<-uh HZ,Lay.flankedB,<-uh HNO,List.take_of_length_le (by omega)])
   clear h3;go_wp2
   go_ret
   exact⟨z04 (uh HZ2).symm,hb⟩
structure PRt where
 rt:Rt
 ph:Nat
 train:Nat
 been:Bool
 count:Nat
 marked:List Bool
 freed:Nat
structure PSw where
 wanted:Nat
 late:Nat
 failed:Bool
structure PBx where
 L:Lay
 rts:List PRt
 sws:List PSw
 sta:List Nat
 waits:List Nat
def PRt.new (r:Rt):PRt:=⟨r,46,0,false,0,[],0⟩
def PSw.new:PSw:=⟨43,0,false⟩
def swV (x:PSw):List Value:=[.int .u8 x.wanted,.int .i64 x.late,.bool x.failed]
def CPSw (_:World) (x:PSw) (cs:List Value):Prop:=cs=swV x
def PSws (w:World) (v:Value) (l:List PSw):Prop:=SlAt 110 3 CPSw w v l
theorem PSws.keep {w w':World} {v:Value} {l:List PSw} (h:PSws w v l) (k:Keeps 110 w w'):PSws w' v l:=SlAt.keep h k (fun _ _ h=>h)
def CPRt (w:World) (x:PRt) (cs:List Value):Prop:=∃vp vf vm,cs=[.int .i64 x.rt.foot,vp,vf,.int .u8 x.ph,.int .i64 x.train,.bool x.been,.int .i64 x.count,vm,.int .i64 x.freed]/\Items w vp x.rt.path/\Items w vf x.rt.flank/\Bools w vm x.marked
theorem CPRt.keep {w w':World} {x:PRt} {cs:List Value} (h:CPRt w x cs) (k:Keeps 168 w w') (k1:Keeps 4 w w'):CPRt w' x cs:=by
 obtain⟨vp,vf,vm,e,a,b,c⟩:=h;exact⟨vp,vf,vm,e,a.keep k,b.keep k,c.keep k1⟩
def PRts (w:World) (v:Value) (l:List PRt):Prop:=SlAt 115 9 CPRt w v l
theorem PRts.keep {w w':World} {v:Value} {l:List PRt} (h:PRts w v l) (k:Keeps 115 w w') (k1:Keeps 168 w w') (k2:Keeps 4 w w'):PRts w' v l:=SlAt.keep h k (fun _ _ h=>h.keep k1 k2)
def PBoxAt (w:World) (g:Nat) (B:PBx):Prop:=∃vs vr vt vl vw va vq,
 w.heap[g]?=some (.cells #[.int .i64 B.L.T,.int .i64 B.L.D,.int .i64 B.L.Q,vs,vr,vt,vl,vw,va,vq] 86 (0,0)) ∧
 CLay w (.agg #[.int .i64 B.L.T,.int .i64 B.L.D,.int .i64 B.L.Q,vs,vr,vt]) B.L/\PRts w vl B.rts/\PSws w vw B.sws/\Ints w va B.sta/\Ints w vq B.waits
theorem PBoxAt.below {w w':World} {g:Nat} {B:PBx} (h:PBoxAt w g B) (k:Below w.heap.size w w'):PBoxAt w' g B:=by
 obtain⟨vs,vr,vt,vl,vw,va,vq,e,h1,h2,h3,h4,h5⟩:=h;have kk:=fun e=>Keeps.below (e:=e) k;exact⟨vs,vr,vt,vl,vw,va,vq,(k.block g (z0g e)).trans e,h1.below k,h2.keep (kk _) (kk _) (kk _),h3.keep (kk _),h4.keep (kk _),h5.keep (kk _)⟩
theorem box10 {w:World} {g:Nat} {c0 c1 c2 c3 c4 c5 c6 c7 c8 c9:Value} {e:TypeId} (h:w.heap[g]?=some (.cells #[c0,c1,c2,c3,c4,c5,c6,c7,c8,c9] e (0,0))) :
  (w.cell? ⟨g,0,none⟩=some c0/\w.cell? ⟨g,1,none⟩=some c1/\w.cell? ⟨g,2,none⟩=some c2/\w.cell? ⟨g,3,none⟩=some c3/\w.cell? ⟨g,4,none⟩=some c4/\w.cell? ⟨g,5,none⟩=some c5 ∧
   w.cell? ⟨g,6,none⟩=some c6/\w.cell? ⟨g,7,none⟩=some c7/\w.cell? ⟨g,8,none⟩=some c8/\w.cell? ⟨g,9,none⟩=some c9) ∧
  (w.frozen? ⟨g,6,none⟩=false/\w.frozen? ⟨g,7,none⟩=false/\w.frozen? ⟨g,8,none⟩=false/\w.frozen? ⟨g,9,none⟩=false)/\g < w.heap.size:=
 ⟨⟨z07 h 0,z07 h 1,z07 h 2,z07 h 3,z07 h 4,z07 h 5,z07 h 6,z07 h 7,z07 h 8,z07 h 9⟩,
  ⟨z0c h 6,z0c h 7,z0c h 8,z0c h 9⟩,z0g h⟩
theorem byts_str {w:World} {v:Value} {l:List Nat} (h:Byts w v l):(convert 74 9 v).run Tryz.prog w=.ok (.string (z0i l)) w:=by
 obtain⟨ao,cap,rfl,-,-,h3⟩:=h;have e:z0i l=strOfNums (l.map Int.ofNat):=by simp[z0i,strOfNums]
 rcases h3 with h3 | ⟨g,off,cur,fr,rfl,hg,hc⟩
 ·subst h3
  have:=@run_convert_bytes_nil Tryz.prog
  first
   | (cases ao with
    | none=>exact this w _ _ Tryz.underlying74 Tryz.underlying5 _ _ _ Tryz.underlying9
    | some a=>
     have:=run_convert_bytes_string (P:=Tryz.prog) w 74 9 5 (some a) 0 cap Tryz.underlying74 Tryz.underlying5 Tryz.underlying9;rw[show ([]:List Nat).length=0 from rfl,this,run_bytesToString w a 0 cap [] (by simpa using run_loadCells_list (P:=Tryz.prog) w a [] (by simp))];rfl)
 ·rw[e]
  refine run_convert_bytes_arg (P:=Tryz.prog) w _ _ Tryz.underlying74 Tryz.underlying5 g off l.length cap _ (by simp) (fun i hi=>?_) _ Tryz.underlying9;obtain⟨cs,-,hC,hcs⟩:=hc i hi;have:=hcs 0 (by omega);unfold CByte at hC;subst hC;rw[z1j hg];simp at this;rw[this];simp[hi]
def PRt.lockB (x:PRt) (s:Nat):Bool:=x.ph != 46&&((secs x.rt.path).drop x.freed).contains s
def PBx.lockB (B:PBx) (s r:Nat):Bool:=(B.rts.getD r (PRt.new Rt0)).lockB s
def PBx.lockedBy (B:PBx) (s:Nat):Option Nat:=(List.range B.rts.length).find? (B.lockB s)
def PBx.locksT (B:PBx):List Nat:=(List.range B.L.sw.length).map (fun s=>lockC (B.lockedBy s))
def PBx.phasesT (B:PBx):List Nat:=B.rts.map (·.ph)
def PSw.tell (x:PSw):Nat:=if x.failed then 120 else x.wanted
def PBx.swT (B:PBx) (s:Nat):List Nat:=if B.L.sw.getD s false then [(B.sws.getD s PSw.new).tell] else []
def PBx.switchesT (B:PBx):List Nat:=(List.range B.sws.length).flatMap B.swT
def PBx.stateT (B:PBx):List Nat:=B.sta.map (48+·)
set_option maxHeartbeats 400000 in
theorem isSet_at (g o ph:Nat) (w:World) (h:w.cell? ⟨g,o+3,none⟩=some (.int .u8 ph)) :
  Calls Tryz.prog 102 #[.pointer (some ⟨g,o,none⟩)] w fun e w'=>e=.returned (.bool (ph != 46))/\w'=w:=by
 have hx:((ph:Int) != 46)=(ph != 46):=by
  rw[Bool.eq_iff_iff]; simp; omega
 go_enter Tryz.func102,Tryz.ntmps102
 go_wp2
 go_ret
 exact⟨rfl,rfl⟩
set_option maxHeartbeats 1000000 in
theorem locks_at (g o:Nat) (x:PRt) (cs:List Value) (s:Nat) (w:World) (hg:g < w.heap.size) (hc:∀j,j < 9->w.cell? ⟨g,o+j,none⟩=cs[j]?) (hC:CPRt w x cs) (_hf:x.freed<=1000) :
  Calls Tryz.prog 121 #[.pointer (some ⟨g,o,none⟩),.int .i64 s] w fun e w'=>e=.returned (.bool (x.lockB s))/\Below w.heap.size w w':=by
 obtain⟨vp,vf,vm,rfl,hP,-,-⟩:=hC;have c1:=hc 1 (by omega);have c3:=hc 3 (by omega);have c6:=hc 8 (by omega);simp at c1 c3 c6;have HS:=zh (isSet_at g o x.ph w c3);unfold PRt.lockB;obtain⟨ap,cp,rfl,hpl,hmp,p3⟩:=SlAt.open hP;unfold maxLen at hmp;obtain⟨Z,hZ⟩:∃Z,Z=(x.ph != 46&&((secs x.rt.path).drop x.freed).contains s):=⟨_,rfl⟩
 rw[<-hZ];have HZ:=zh hZ;have hcd:=zh (contains_drop (secs x.rt.path) x.freed s);have HSL:=zh (show (secs x.rt.path).length=x.rt.path.length by simp[secs]);have HSG:=zh (show ∀k (h:k < x.rt.path.length) (h':k < (secs x.rt.path).length),(secs x.rt.path)[k]=x.rt.path[k].1 by intro k h h'; simp[secs]);generalize x.rt.path=P at *;generalize x.freed=fr at *;clear hc hP hZ;by_cases hph:x.ph=46
 ·have b0:(x.ph != 46)=false:=by simp[hph]
  have HZ0:=zh (show Z=false by rw[uh HZ,b0]; rfl);rw[b0] at HS;generalize x.ph=ph at *;clear p3 HZ;go_enter Tryz.func121,Tryz.ntmps121
  go_wp2_with fail
  refine(uh HS).mono ?_;rintro e w1 ⟨rfl,rfl⟩;go_wp2
  go_ret
  exact⟨z04 (uh HZ0).symm,Below.refl _ _⟩
 ·have b0:(x.ph != 46)=true:=by simp[hph]
  have HZ0:=zh (show Z=((secs P).drop fr).contains s by rw[uh HZ,b0]; rfl);rw[b0] at HS;generalize x.ph=ph at *;clear HZ;go_enter Tryz.func121,Tryz.ntmps121
  go_wp2_with fail
  refine(uh HS).mono ?_;rintro e w1 ⟨rfl,rfl⟩;go_wp2
  go_loopw [16] (fun i wr=>∃k:Nat,i=.int .i64 k/\k<=P.length/\(∀j (h:j < P.length),fr<=j->j < k->P[j].1≠s)/\Below w1.heap.size w1 wr) (fun i _=>P.length - (intOf i).toNat)
  case atStart=>exact⟨0,rfl,Nat.zero_le _,fun j h h1 h2=>by omega,Below.refl _ _⟩
  case round=>
   obtain⟨k,rfl,hk,hno,hb⟩:=hrel;have HNO:=zh hno;have HB:=zh hb;have hbs:=hb.size;clear hno;by_cases hlt:k < P.length
   ·obtain⟨gp,op,hap,hgp,csp,-,hCp,hcp⟩:=p3 k hlt
    subst hap;unfold CItem itemV at hCp;subst hCp;have x0:=hcp 0 (by omega);have x1:=hcp 1 (by omega);rw[<-hb.cell (p:=⟨gp,_,none⟩) hgp] at x0 x1;rw[<-hb.cell (p:=⟨g,_,none⟩) hg] at c6;simp at x0 x1;have l1:(k:Int) < P.length:=by omega
    have hgw:g < wr.heap.size:=by omega
    have hgpw:gp < wr.heap.size:=by omega
    have HNN:=zh (show (fr<=k->P[k].1≠s)->∀j (h:j < P.length),fr<=j->j < k+1->P[j].1≠s by
     intro hx j h h1 h2;by_cases hj:j < k
     ·exact uh HNO j h h1 hj
     ·obtain rfl:j=k:=by omega
      exact hx h1)
    have HFD:=zh (show fr<=k->P[k].1=s->Z=true by
     intro h0 h1;rw[uh HZ0,(uh hcd).2 ⟨k,by rw[uh HSL]; exact hlt,h0,by rw[uh HSG k hlt]; exact h1⟩])
    clear hcp p3 hb;generalize P[k].1=y at *;generalize P[k].2=y2 at *;by_cases hfr:fr<=k
    ·have b1:decide ((fr:Int)<=k)=true:=by simp; omega
     by_cases hys:y=s
     ·have b2:((y:Int)==s)=true:=by simp[hys]
      have HZ2:=zh (uh HFD hfr hys);go_wp2
      go_ret
      exact⟨z04 (uh HZ2).symm,(uh HB).alloc hbs _⟩
     ·have b2:((y:Int)==s)=false:=by simp; omega
      go_wp2
      exact⟨⟨k+1,by go_num,by omega,uh HNN (fun _=>hys),(uh HB).alloc hbs _⟩,by simp[intOf]; omega⟩
    ·have b1:decide ((fr:Int)<=k)=false:=by simp; omega
     go_wp2
     exact⟨⟨k+1,by go_num,by omega,uh HNN (fun h=>absurd h hfr),(uh HB).alloc hbs _⟩,by simp[intOf]; omega⟩
   ·have HZ2:=zh (show Z=false by
     rw[uh HZ0,Bool.eq_false_iff];intro h;obtain⟨j,hj,h1,h2⟩:=(uh hcd).1 h;have hj':j < P.length:=by rw[<-uh HSL]; exact hj
     rw[uh HSG j hj'] at h2;exact uh HNO j hj' h1 (by omega) h2)
    have l1:(P.length:Int)<=k:=by omega
    clear p3 hb;go_wp2
    go_ret
    exact⟨z04 (uh HZ2).symm,uh HB⟩
theorem set_self {α:Type} (l:List α) (r:Nat) (h:r < l.length):l.set r l[r]=l:=by simp
end Go.Proofs.YtkbpocecbcaiiabGreatDoor
