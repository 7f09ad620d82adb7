import Derived.Test.YtkbpocecbcaiiabGreatDoorO35
import Derived.Deep.Onto
namespace Go.Proofs.YtkbpocecbcaiiabGreatDoor
open Go.RowKit
theorem Tryz.infoSt:(Tryz.prog.info? 191).map (fun i=>(i.zero,i.size,i.bytes))=some (some (.agg #[.bool false,.int .i64 0,.slice none 0 0]),3,40):=by kernel_rfl
def Lay.stsAt (L:Lay) (at_:List Nat):List St:=(List.range L.tns.length).map (fun i=>L.stAt (L.tn i) (at_.getD i 0))
theorem tri_after {wr w1:World} {t:TypeId} {u0 u1 u2:Value} (hb:Below wr.drew.heap.size wr.drew w1) :
  (w1.alloc (.cells #[u0,u1,u2] t)).heap[w1.heap.size]?=some (.cells #[u0,u1,u2] t)/\(∀e,t≠e->Keeps e w1 (w1.alloc (.cells #[u0,u1,u2] t)))/\Below wr.heap.size wr (w1.alloc (.cells #[u0,u1,u2] t)):=by
 have hb':Below wr.heap.size wr w1:=((Below.refl _ _).drew).trans hb;exact⟨heap_alloc_new _ _,fun e _=>Keeps.alloc e _ _,hb'.alloc hb'.size _⟩
theorem tri_before {wr w1:World} {t:TypeId} {z:Obj} {u0 u1 u2 z0 z1 z2:Value} (hb:Below (wr.alloc z).drew.heap.size (wr.alloc z).drew w1)
  (hz:w1.heap[wr.heap.size]?=some (.cells #[z0,z1,z2] t (0,0))) :
  (((w1.setCell ⟨wr.heap.size,0,none⟩ u0).setCell ⟨wr.heap.size,1,none⟩ u1).setCell ⟨wr.heap.size,2,none⟩ u2).heap[wr.heap.size]?=some (.cells #[u0,u1,u2] t) ∧
  (∀e,t≠e->Keeps e w1 (((w1.setCell ⟨wr.heap.size,0,none⟩ u0).setCell ⟨wr.heap.size,1,none⟩ u1).setCell ⟨wr.heap.size,2,none⟩ u2)) ∧
  Below wr.heap.size wr (((w1.setCell ⟨wr.heap.size,0,none⟩ u0).setCell ⟨wr.heap.size,1,none⟩ u1).setCell ⟨wr.heap.size,2,none⟩ u2):=by
 have h0:Below wr.heap.size wr (wr.alloc z).drew:=(z01 wr z).drew;have hb':Below wr.heap.size wr w1:=h0.trans (hb.mono h0.size);refine⟨z0b (j:=2) _ (z0b (j:=1) _ (z0b (j:=0) _ hz)),store3 (⟨_,_,hz⟩:Typed w1 wr.heap.size t) u0 u1 u2,?_⟩;exact((hb'.setCell (p:=⟨wr.heap.size,0,none⟩) (Nat.le_refl _) _).setCell (p:=⟨wr.heap.size,1,none⟩) (Nat.le_refl _) _).setCell (p:=⟨wr.heap.size,2,none⟩) (Nat.le_refl _) _
theorem tn_eq' (L:Lay) (i:Nat) (h:i < L.tns.length):L.tn i=L.tns[i]:=by
 simp[Lay.tn,List.getD_eq_getElem?_getD,List.getElem?_eq_getElem h]
set_option maxHeartbeats 16000000 in
theorem trainsAt_any (v va:Value) (L:Lay) (at_:List Nat) (w:World) (h:CLay w v L) (ha:Ints w va at_) (hla:at_.length=L.tns.length) (hp:L.Paths) (hj:L.Jnys)
  (hn:L.tns.length<=1000) (hl:∀t,t∈L.tns->t.jny.length<=1000) (hpl:∀r,r∈L.rts->r.path.length<=1000) (hg:∀g,g∈at_->g<=1000) :
  Calls Tryz.prog 130 #[v,va] w fun e w'=>∃(a:Option Addr) (c:Nat) (css:List (List Value)),e=.returned (.slice a L.tns.length c)/\w'.ownsRow w.heap.size 191 3 (.slice a L.tns.length c) L.tns.length css.flatten ∧
   All2 (CSt w') (L.stsAt at_) css/\(∀c,c∈css->c.length=3)/\Below w.heap.size w w':=by
 have HL:=zh h;obtain⟨vs,vr,vtt,rfl,-,-,hT⟩:=h;obtain⟨aot,capt,rfl,t1,t2,t3⟩:=SlAt.open hT;obtain⟨aoa,capa,rfl,a1,a2,a3⟩:=SlAt.open ha;unfold maxLen at t2 a2;obtain⟨i0,hi0⟩:=info_parts Tryz.infoSt;have HI:=zh hi0;have HP:=zh hp;have HJ:=zh hj;have HPL:=zh hpl;have HLL:=zh hl;have HG:=zh hg;clear hp hT hi0 hj hpl ha hl hg;go_enter Tryz.func130,Tryz.ntmps130
 go_wp2
 go_loopw [5,6] (fun r i wr=>∃(k:Nat) (css:List (List Value)),i=.int .i64 k/\k<=L.tns.length/\wr.ownsRow (w.heap.size+1) 191 3 r k css.flatten ∧
   All2 (CSt wr) ((List.range k).map (fun i=>L.stAt (L.tn i) (at_.getD i 0))) css/\(∀c,c∈css->c.length=3) ∧
   Below (w.heap.size+1) (w.alloc (z0n L vs vr (.slice aot L.tns.length capt))) wr) (fun _ i _=>L.tns.length - (intOf i).toNat)
 case atStart=>exact⟨0,[],rfl,Nat.zero_le _,World.ownsRow_nil _ _ _ _,trivial,by simp,Below.refl _ _⟩
 case round=>
  obtain⟨k,css,rfl,hk,hown,hA,hcl,hb⟩:=hrel;obtain⟨ah,ch,hr⟩:=z02 hown;subst hr;have HB:=zh hb;have HA:=zh hA;have HC:=zh hcl;have HW:=zh hla;obtain⟨q0,q1,q2,q3,q4,q5,qs⟩:=z3x hb;clear hA hcl;by_cases hlt:k < L.tns.length
  ·obtain⟨gt,offt,hao,hgt,cs,-,hC,hc⟩:=t3 k hlt
   subst hao;obtain⟨vj,rfl,hJ⟩:=hC;have hc0:=hc 0 (by omega);have hc1:=hc 1 (by omega);have hlt2:k < at_.length:=by omega
   obtain⟨ga,offa,hao,hga,cs,-,hC,hd⟩:=a3 k hlt2;subst hao;unfold CInt at hC;subst hC;have hd0:=hd 0 (by omega);rw[<-(z09 hb).cell (p:=⟨gt,_,none⟩) hgt] at hc0 hc1;rw[<-(z09 hb).cell (p:=⟨ga,_,none⟩) hga] at hd0;simp at hc0 hc1 hd0;have HE:=zh (show L.stAt (L.tn k) (at_.getD k 0)=L.stAt L.tns[k] at_[k] by
    rw[tn_eq' L k hlt]; simp[List.getD_eq_getElem?_getD,List.getElem?_eq_getElem hlt2])
   obtain⟨aj,cj,hjv,-,-,-⟩:=SlAt.open hJ;have hmem:=List.getElem_mem hlt;have hjr:=uh HJ _ hmem;have hjl:=uh HLL _ hmem;have hgl:=uh HG _ (List.getElem_mem hlt2);have HT:=zh (show VTn w (.agg #[.int .i64 L.tns[k].start,vj]) L.tns[k] from ⟨_,rfl,hJ⟩);have hcr:=zh (fun (wz:World) (hz:Below w.heap.size w wz)=>trainAt_any _ _ L L.tns[k] at_[k] wz ((uh HL).below hz) ((uh HT).below hz) (uh HP) hjr hjl (uh HPL) hgl);have l1:(k:Int) < L.tns.length:=by omega
   have l2:(k:Int) < at_.length:=by omega
   have hgw1:gt < wr.heap.size:=by omega
   have hgw2:ga < wr.heap.size:=by omega
   subst hjv;clear hc hd t3 a3 hb hla hJ HT hmem hjr hjl hgl;generalize L.tns[k]=T at *;generalize at_[k]=G at *;generalize hst:L.stAt T G=st at *;have HST:=zh hst;clear hst;go_wp2
   go_cut [7] (fun u wx=>∃(b:Nat) (a:Option Addr) (n c:Nat),u=.pointer (some ⟨b,0,none⟩)/\wx.heap[b]?=some (.cells #[.bool st.done,.int .i64 st.holds,.slice a n c] 191 (0,0))/\Ints wx (.slice a n c) st.ahead/\Below wr.heap.size wr wx)
   case first=>
    go_region_with (go_at_call 164; refine(uh hcr _ ?_).mono ?_; (first | exact(z09 (uh HB)).drew | exact((z09 (uh HB)).alloc (by omega) _).drew); rintro e w1 ⟨a,n,c,rfl,hI,hb1⟩; (try (have hz:w1.heap[wr.heap.size]?=some (.cells #[.bool false,.int .i64 0,.slice none 0 0] 191 (0,0)):=(hb1.block wr.heap.size (by simp)).trans (heap_alloc_new wr.drew _); obtain⟨⟨z0,z1,z2⟩,⟨y0,y1,y2⟩,yq⟩:=tri0 hz)); have HI1:=zh hI; have HB1:=zh hb1; clear hb1 hI)
    all_goals
     first
      | (have H9:=zh (tri_before (u0:=.bool st.done) (u1:=.int .i64 st.holds) (u2:=.slice a n c) (uh HB1) hz); clear HB1; go_wp2_with fail; go_meet; exact⟨_,_,_,_,rfl,(uh H9).1,(uh HI1).keep ((uh H9).2.1 _ (by decide)),(uh H9).2.2⟩)
      | (have H9:=zh (tri_after (t:=191) (u0:=.bool st.done) (u1:=.int .i64 st.holds) (u2:=.slice a n c) (uh HB1)); clear HB1; go_wp2_with fail; go_meet; exact⟨_,_,_,_,rfl,(uh H9).1,(uh HI1).keep ((uh H9).2.1 _ (by decide)),(uh H9).2.2⟩)
   case rest=>
    obtain⟨b,a,n,c,rfl,hblk,hI,hb1⟩:=hcut;have hown1:=z0j hown hb1;have HB1:=zh ((uh HB).trans (hb1.mono (B':=w.heap.size+1) (by omega)));have HA1:=zh (All2.mono (fun _ _ h=>h.keep (Keeps.below hb1)) (uh HA));have HI1:=zh hI;have hsz:=hb1.size;obtain⟨⟨z0,z1,z2⟩,⟨y0,y1,y2⟩,yq⟩:=tri0 hblk;clear hown hb1 hI HB HA hblk q0 q1 q2 q3 q4 q5 hc0 hc1 hd0;go_wp2_with (at_builtin; refine wpList_append_own _ rfl _ _ 187 rfl (w.heap.size+1) 191 i0 (.agg #[.bool false,.int .i64 0,.slice none 0 0]) 3 40 Tryz.underlying187 (uh HI).1 (uh HI).2.1 (uh HI).2.2.1 (uh HI).2.2.2 rfl (by decide) _ _ _ rfl (hown1.alloc _) ⟨wc.heap.size,0,none⟩ 1 1 [.bool st.done,.int .i64 st.holds,.slice a n c] rfl rfl (by exact z0t _ [.bool st.done,.int .i64 st.holds,.slice a n c] _ _ (by simp)) (by simp[Value.oneCell']) (by unfold maxLen; omega) (by omega) (by simp; omega) ?_; intro v3 w3 hown3 hgrow3 _)
    have hb3:=z0p (uh HB1) (by omega) hown1 hgrow3;have hki:Keeps 3 wc w3:=z0f hown1 hgrow3 (by decide);clear hown1 hgrow3;go_wp2
    refine⟨⟨k+1,css++[[.bool st.done,.int .i64 st.holds,.slice a n c]],by go_num,by omega,?_,?_,?_,hb3⟩,by simp[intOf]; omega⟩
    ·rw[List.flatten_append]; simpa using hown3
    ·rw[List.range_succ,List.map_append]
     refine All2.snoc ?_ (All2.mono (fun _ _ h=>h.keep hki) (uh HA1));show CSt w3 (L.stAt (L.tn k) (at_.getD k 0)) _;rw[uh HE];exact⟨_,rfl,(uh HI1).keep hki⟩
    ·intro c' hc'
     rcases List.mem_append.1 hc' with h | h
     ·exact uh HC c' h
     ·simp at h; subst h; rfl
  ·obtain rfl:k=L.tns.length:=by omega
   have hb3:=zh (z09 hb);have hown':=zh (hown.mono (base':=w.heap.size) (by omega));have l1:¬((L.tns.length:Int) < L.tns.length):=by omega
   clear t3 a3 hb hown hla;go_wp2
   go_ret
   exact⟨_,_,rfl,css,uh hown',uh HA,uh HC,uh hb3⟩
end Go.Proofs.YtkbpocecbcaiiabGreatDoor
