import Derived.Test.YtkbpocecbcaiiabGreatDoorO6
import Derived.Deep.CutRange
import Derived.Deep.RegionWith
namespace Go.Proofs.YtkbpocecbcaiiabGreatDoor
open Go.RowKit
set_option maxRecDepth 100000 in
set_option maxHeartbeats 8000000 in
theorem kroute_flank (n g T D Q:Nat) (k:KP) (V:Nat->Nat->Value) (c b:Nat) (w:World) (h:KM n w g T D Q k V) (hl:k.foot.length<=1000) (h0:0 < k.foot.length) (hw:k.flank.length=k.foot.length) (hc:97<=c/\c<=112) (hlr2:(z0e k.flank).length<=1000) :
  Calls Tryz.prog 62 #[.pointer (some ⟨g,0,none⟩),.int .u8 c,.int .u8 b,.bool false,.bool true] w fun e w'=>e=.returned (.tuple #[])/\(∃V',KM n w' g T D Q { k with flank:=z0w k.flank (z0e k.flank++[c - 97]) } V')/\Below n w w':=by
 obtain⟨i0,hi0⟩:=info_parts Tryz.infoInt;have HI:=zh hi0;have hn:=h.nw;have HK:=zh h;obtain⟨a5,e5,hv5,-⟩:=h.topI 5 (by omega) k.foot rfl;have hl1:(kcont k V 7 0).length=k.flank.length:=by show ((List.range k.flank.length).map (V 17)).length=_; simp
 obtain⟨a8,e8,hv8,ho8⟩:=h.topR 7 k.flank.length (by omega) hl1;obtain⟨gp,cp,hgp,-,hgpz⟩:=ho8.form (by omega);simp only[Value.slice.injEq] at hgp;obtain⟨rfl,-,rfl⟩:=hgp;obtain⟨r,hr⟩:∃r,r+1=k.flank.length:=⟨k.flank.length - 1,by omega⟩
 have er:r=k.flank.length - 1:=by omega
 have hkr:KKey k 17 r:=.inr (.inr (.inl ⟨rfl,by omega⟩));have e18:kcont k V 17 r=intsV (z0e k.flank):=by rw[er]; rfl
 have hor:=h.own 17 r hkr;have ez:(intsV (z0e k.flank)).length=(z0e k.flank).length:=by simp[intsV]
 rw[e18,ez] at hor;obtain⟨ar,er2,hvr⟩:=z02 hor;rw[hvr] at hor;have HOR:=zh (show w.ownsRow n 3 1 (.slice ar (z0e k.flank).length er2) (z0e k.flank).length (intsV (z0e k.flank)) from hor);have xr:w.cell? ⟨gp,r,none⟩=some (.slice ar (z0e k.flank).length er2):=by
  rw[ho8.cellAt r (by omega)];show ((List.range k.flank.length).map (V 17))[r]?=_;rw[List.getElem?_map,List.getElem?_range (by omega)];show some (V 17 r)=_;rw[hvr]
 have zr:=ho8.frozenAt r;obtain⟨⟨-,-,c5,c6,c7,-⟩,-,hgz⟩:=h.box;rw[hv5] at c5;rw[hv8] at c7;obtain⟨x,hx⟩:∃x,x=c - 97:=⟨_,rfl⟩
 have hwx:IntKind.i64.wrap ((c:Int) - 97)=((x:Nat):Int):=by rw[Go.IntWalk.i64_in _ (by omega)]; omega
 have HVR:=zh hvr;have HV8:=zh hv8;have HC:=zh (show ∀b,(V 17 r).ownBlock=some b->b≠gp from fun b hb e=>h.ap 17 r 7 0 hkr (z0u k 7 (by omega)) (by simp) b hb (by rw[hv8,e]; rfl));obtain⟨kz,hkz⟩:∃kz:KP,kz={ k with flank:=z0w k.flank (z0e k.flank++[c - 97]) }:=⟨_,rfl⟩
 rw[<-hkz];have HKZ:=zh (show kz={ k with flank:=z0w k.flank (z0e k.flank++[x]) } by rw[hkz,hx]);obtain⟨nr,hnr⟩:∃m,m=(z0e k.flank).length:=⟨_,rfl⟩
 rw[<-hnr] at HOR xr hlr2 HVR;have HNR:=zh hnr;obtain⟨nw,hnw⟩:∃m,m=k.flank.length:=⟨_,rfl⟩
 rw[<-hnw] at c7 hr hw HV8;have HNW:=zh hnw;obtain⟨nf,hnf⟩:∃m,m=k.foot.length:=⟨_,rfl⟩
 rw[<-hnf] at c5 hl h0 hw;have HKR:=zh hkr;subst hw;have hri:((nw:Int) - 1)=r:=by omega
 have hrw:IntKind.i64.wrap ((nw:Int) - 1)=((r:Nat):Int):=by rw[Go.IntWalk.i64_in _ (by omega)]; exact hri
 have l0:(0:Int)<=r:=by omega
 have l1:(r:Int) < nw:=by omega
 have b1:((c:Int)==43)=false:=by simp; omega
 have b2:((c:Int)==45)=false:=by simp; omega
 have b3:(97:Int)<=c:=by omega
 have b4:(c:Int)<=112:=by omega
 clear h hv5 hv8 ho8 hl1 hor hvr hkr e18 er ez hnr hnw hnf hx hkz hi0 c6;go_enter Tryz.func62,Tryz.ntmps62
 go_wp2
 have hw0:IntKind.i64.wrap (c:Int)=c:=Go.IntWalk.i64_in _ (by omega);go_region_law (refine step_append_lies _ rfl (.tmp 104) (.tmp 108) 49 rfl n 3 i0 (.int .i64 0) 1 8 Tryz.underlying49 (uh HI).1 (uh HI).2.1 (uh HI).2.2.1 (uh HI).2.2.2 rfl (by decide) (.slice ar nr er2) nr (intsV (z0e k.flank)) (by simp[Act.eval]) (World.ownsRow.drew (World.ownsRow.alloc (uh HOR) _)) ⟨w.heap.size,0,none⟩ 1 1 [.int .i64 (x:Nat)] (by simp[Act.eval]) rfl (z29 _ _ _) (z0a rfl) (by decide) (by unfold maxLen; omega) (by omega) (by simp; omega) _ rfl ?_; intro g4 d4 w4 hown4 hgrow4 hat4 hlt4; have hg4:=z20 hgrow4; have hb4:=(uh HK).cell_grown (uh HKR) (by rw[uh HVR]; exact hg4); obtain⟨⟨-,-,-,q6,q7,-⟩,-,hgz4⟩:=z1o hb4; rw[uh HV8] at q7; have hbp:=(z19 hg4).block gp hgpz (fun e=>uh HC gp (by rw[uh HVR]; exact e) rfl); have xr4:w4.cell? ⟨gp,r,none⟩=some (.slice ar nr er2):=(World.cell?_of_block (a:=⟨gp,r,none⟩) hbp).trans xr; have zr4:w4.frozen? ⟨gp,r,none⟩=false:=(World.frozen?_of_block (a:=⟨gp,r,none⟩) hbp).trans zr)
 all_goals
  go_wp2
  refine bodyPost_end (v:=.tuple #[]) (by simp[results,Tryz.results62,go_sem]) rfl ?_;rw[uh HKZ];refine⟨rfl,⟨_,kflank_leaf (uh HK) (m:=nr) (uh HV8) (uh HNW) hr (uh HNR) hown4 (by rw[uh HVR]; exact hg4) (hat4.imp (fun e=>by rw[uh HVR]; exact e) (fun e=>by rw[e]; simp))⟩,?_⟩;exact z0m ((uh HK).below_grown (uh HKR) (by rw[uh HVR]; exact hg4) hn) ((uh HK).lt (z0u k 7 (by omega)) (by rw[uh HV8]; rfl)).1 _
set_option maxRecDepth 100000 in
set_option maxHeartbeats 8000000 in
theorem kroute_path (n g T D Q:Nat) (k:KP) (V:Nat->Nat->Value) (c b:Nat) (w:World) (h:KM n w g T D Q k V) (hl:k.foot.length<=1000) (h0:0 < k.foot.length) (hw:k.path.length=k.foot.length) (hc:97<=c/\c<=112) (hlr2:(z0e k.path).length<=1000) :
  Calls Tryz.prog 62 #[.pointer (some ⟨g,0,none⟩),.int .u8 c,.int .u8 b,.bool false,.bool false] w fun e w'=>e=.returned (.tuple #[])/\(∃V',KM n w' g T D Q { k with path:=z0w k.path (z0e k.path++[c - 97]) } V')/\Below n w w':=by
 obtain⟨i0,hi0⟩:=info_parts Tryz.infoInt;have HI:=zh hi0;have hn:=h.nw;have HK:=zh h;obtain⟨a5,e5,hv5,-⟩:=h.topI 5 (by omega) k.foot rfl;have hl1:(kcont k V 6 0).length=k.path.length:=by show ((List.range k.path.length).map (V 16)).length=_; simp
 obtain⟨a8,e8,hv8,ho8⟩:=h.topR 6 k.path.length (by omega) hl1;obtain⟨gp,cp,hgp,-,hgpz⟩:=ho8.form (by omega);simp only[Value.slice.injEq] at hgp;obtain⟨rfl,-,rfl⟩:=hgp;obtain⟨r,hr⟩:∃r,r+1=k.path.length:=⟨k.path.length - 1,by omega⟩
 have er:r=k.path.length - 1:=by omega
 have hkr:KKey k 16 r:=.inr (.inl ⟨rfl,by omega⟩);have e18:kcont k V 16 r=intsV (z0e k.path):=by rw[er]; rfl
 have hor:=h.own 16 r hkr;have ez:(intsV (z0e k.path)).length=(z0e k.path).length:=by simp[intsV]
 rw[e18,ez] at hor;obtain⟨ar,er2,hvr⟩:=z02 hor;rw[hvr] at hor;have HOR:=zh (show w.ownsRow n 3 1 (.slice ar (z0e k.path).length er2) (z0e k.path).length (intsV (z0e k.path)) from hor);have xr:w.cell? ⟨gp,r,none⟩=some (.slice ar (z0e k.path).length er2):=by
  rw[ho8.cellAt r (by omega)];show ((List.range k.path.length).map (V 16))[r]?=_;rw[List.getElem?_map,List.getElem?_range (by omega)];show some (V 16 r)=_;rw[hvr]
 have zr:=ho8.frozenAt r;obtain⟨⟨-,-,c5,c6,c7,-⟩,-,hgz⟩:=h.box;rw[hv5] at c5;rw[hv8] at c6;obtain⟨x,hx⟩:∃x,x=c - 97:=⟨_,rfl⟩
 have hwx:IntKind.i64.wrap ((c:Int) - 97)=((x:Nat):Int):=by rw[Go.IntWalk.i64_in _ (by omega)]; omega
 have HVR:=zh hvr;have HV8:=zh hv8;have HC:=zh (show ∀b,(V 16 r).ownBlock=some b->b≠gp from fun b hb e=>h.ap 16 r 6 0 hkr (z0u k 6 (by omega)) (by simp) b hb (by rw[hv8,e]; rfl));obtain⟨kz,hkz⟩:∃kz:KP,kz={ k with path:=z0w k.path (z0e k.path++[c - 97]) }:=⟨_,rfl⟩
 rw[<-hkz];have HKZ:=zh (show kz={ k with path:=z0w k.path (z0e k.path++[x]) } by rw[hkz,hx]);obtain⟨nr,hnr⟩:∃m,m=(z0e k.path).length:=⟨_,rfl⟩
 rw[<-hnr] at HOR xr hlr2 HVR;have HNR:=zh hnr;obtain⟨nw,hnw⟩:∃m,m=k.path.length:=⟨_,rfl⟩
 rw[<-hnw] at c6 hr hw HV8;have HNW:=zh hnw;obtain⟨nf,hnf⟩:∃m,m=k.foot.length:=⟨_,rfl⟩
 rw[<-hnf] at c5 hl h0 hw;have HKR:=zh hkr;subst hw;have hri:((nw:Int) - 1)=r:=by omega
 have hrw:IntKind.i64.wrap ((nw:Int) - 1)=((r:Nat):Int):=by rw[Go.IntWalk.i64_in _ (by omega)]; exact hri
 have l0:(0:Int)<=r:=by omega
 have l1:(r:Int) < nw:=by omega
 have b1:((c:Int)==43)=false:=by simp; omega
 have b2:((c:Int)==45)=false:=by simp; omega
 have b3:(97:Int)<=c:=by omega
 have b4:(c:Int)<=112:=by omega
 clear h hv5 hv8 ho8 hl1 hor hvr hkr e18 er ez hnr hnw hnf hx hkz hi0 c7;go_enter Tryz.func62,Tryz.ntmps62
 go_wp2
 have hw0:IntKind.i64.wrap (c:Int)=c:=Go.IntWalk.i64_in _ (by omega);go_region_law (refine step_append_lies _ rfl (.tmp 129) (.tmp 133) 49 rfl n 3 i0 (.int .i64 0) 1 8 Tryz.underlying49 (uh HI).1 (uh HI).2.1 (uh HI).2.2.1 (uh HI).2.2.2 rfl (by decide) (.slice ar nr er2) nr (intsV (z0e k.path)) (by simp[Act.eval]) (World.ownsRow.drew (World.ownsRow.alloc (uh HOR) _)) ⟨w.heap.size,0,none⟩ 1 1 [.int .i64 (x:Nat)] (by simp[Act.eval]) rfl (z29 _ _ _) (z0a rfl) (by decide) (by unfold maxLen; omega) (by omega) (by simp; omega) _ rfl ?_; intro g4 d4 w4 hown4 hgrow4 hat4 hlt4; have hg4:=z20 hgrow4; have hb4:=(uh HK).cell_grown (uh HKR) (by rw[uh HVR]; exact hg4); obtain⟨⟨-,-,-,q6,q7,-⟩,-,hgz4⟩:=z1o hb4; rw[uh HV8] at q6; have hbp:=(z19 hg4).block gp hgpz (fun e=>uh HC gp (by rw[uh HVR]; exact e) rfl); have xr4:w4.cell? ⟨gp,r,none⟩=some (.slice ar nr er2):=(World.cell?_of_block (a:=⟨gp,r,none⟩) hbp).trans xr; have zr4:w4.frozen? ⟨gp,r,none⟩=false:=(World.frozen?_of_block (a:=⟨gp,r,none⟩) hbp).trans zr)
 all_goals
  go_wp2
  refine bodyPost_end (v:=.tuple #[]) (by simp[results,Tryz.results62,go_sem]) rfl ?_;rw[uh HKZ];refine⟨rfl,⟨_,kpath_leaf (uh HK) (m:=nr) (uh HV8) (uh HNW) hr (uh HNR) hown4 (by rw[uh HVR]; exact hg4) (hat4.imp (fun e=>by rw[uh HVR]; exact e) (fun e=>by rw[e]; simp))⟩,?_⟩;exact z0m ((uh HK).below_grown (uh HKR) (by rw[uh HVR]; exact hg4) hn) ((uh HK).lt (z0u k 6 (by omega)) (by rw[uh HV8]; rfl)).1 _
set_option maxRecDepth 100000 in
set_option maxHeartbeats 8000000 in
theorem kroute_other (n g T D Q:Nat) (k:KP) (V:Nat->Nat->Value) (c b:Nat) (bs:Bool) (w:World) (h:KM n w g T D Q k V) (hl:k.foot.length<=1000) (hs:¬(c=43\/c=45)) (hc:¬(97<=c/\c<=112)) :
  Calls Tryz.prog 62 #[.pointer (some ⟨g,0,none⟩),.int .u8 c,.int .u8 b,.bool false,.bool bs] w fun e w'=>e=.returned (.tuple #[])/\(∃V',KM n w' g T D Q k V')/\Below n w w':=by
 have HK:=zh h;obtain⟨a5,e5,hv5,-⟩:=h.topI 5 (by omega) k.foot rfl;obtain⟨⟨-,-,c5,-⟩,-,hgz⟩:=h.box;rw[hv5] at c5;obtain⟨nf,hnf⟩:∃m,m=k.foot.length:=⟨_,rfl⟩
 rw[<-hnf] at c5 hl;have b1:((c:Int)==43)=false:=by simp; omega
 have b2:((c:Int)==45)=false:=by simp; omega
 clear h hv5 hnf;by_cases h1:97<=c
 ·have b3:(97:Int)<=c:=by omega
  have b4:¬(c:Int)<=112:=by omega
  go_enter Tryz.func62,Tryz.ntmps62
  go_wp2
  refine bodyPost_end (v:=.tuple #[]) (by simp[results,Tryz.results62,go_sem]) rfl ?_;exact⟨rfl,⟨V,uh HK⟩,Below.refl _ _⟩
 ·have b3:¬(97:Int)<=c:=by omega
  go_enter Tryz.func62,Tryz.ntmps62
  go_wp2
  refine bodyPost_end (v:=.tuple #[]) (by simp[results,Tryz.results62,go_sem]) rfl ?_;exact⟨rfl,⟨V,uh HK⟩,Below.refl _ _⟩
structure RtB (k:KP) (c b:Nat) (fr:Bool):Prop where
 hl:k.foot.length<=1000
 hp:k.path.length=k.foot.length
 hf:k.flank.length=k.foot.length
 hw:k.want.length=k.foot.length
 hh:k.has.length<=1000
 hc:c < 256
 hb:b < 256
 h97:fr=true->97<=c
 h0:fr=false->0 < k.foot.length
 sg:fr=false->(c=43\/c=45)->97<=b/\b - 97 < (z0e k.want).length
 wl:(z0e k.want).length<=1000
 pl:(z0e k.path).length<=1000
 fl:(z0e k.flank).length<=1000
theorem kroute_any (n g T D Q:Nat) (k:KP) (V:Nat->Nat->Value) (c b:Nat) (fr bs:Bool) (w:World) (h:KM n w g T D Q k V) (hB:RtB k c b fr) :
  Calls Tryz.prog 62 #[.pointer (some ⟨g,0,none⟩),.int .u8 c,.int .u8 b,.bool fr,.bool bs] w fun e w'=>e=.returned (.tuple #[])/\(∃V',KM n w' g T D Q (k.route c b fr bs) V')/\Below n w w':=by
 cases fr with
 | true=>
  have e:k.route c b true bs=k.opn (c - 97) [] [] (List.replicate k.has.length 0):=by unfold KP.route; rw[if_pos rfl]
  rw[e];exact kroute_fresh n g T D Q k V c b bs w h hB.hl hB.hp hB.hf hB.hw hB.hh hB.hc (hB.h97 rfl)
 | false=>
  by_cases hs:c=43\/c=45
  ·have e:k.route c b false bs={ k with want:=z0w k.want ((z0e k.want).set (b - 97) c) }:=by unfold KP.route; rw[if_neg (by simp),if_pos hs]
   rw[e];obtain⟨s1,s2⟩:=hB.sg rfl hs;exact kroute_sign n g T D Q k V c b bs w h hB.hl (hB.h0 rfl) hB.hw hs hB.hb s1 s2 hB.wl
  ·by_cases hc:97<=c/\c<=112
   ·have hi:inB 97 112 c=true:=by unfold inB; simp[hc]
    cases bs with
    | true=>
     have e:k.route c b false true={ k with flank:=z0w k.flank (z0e k.flank++[c - 97]) }:=by unfold KP.route; rw[if_neg (by simp),if_neg hs,if_pos hi,if_pos rfl]
     rw[e];exact kroute_flank n g T D Q k V c b w h hB.hl (hB.h0 rfl) hB.hf hc hB.fl
    | false=>
     have e:k.route c b false false={ k with path:=z0w k.path (z0e k.path++[c - 97]) }:=by unfold KP.route; rw[if_neg (by simp),if_neg hs,if_pos hi,if_neg (by simp)]
     rw[e];exact kroute_path n g T D Q k V c b w h hB.hl (hB.h0 rfl) hB.hp hc hB.pl
   ·have hi:inB 97 112 c=false:=by unfold inB; simp; omega
    have e:k.route c b false bs=k:=by unfold KP.route; rw[if_neg (by simp),if_neg hs,if_neg (by simp[hi])]
    rw[e];exact kroute_other n g T D Q k V c b bs w h hB.hl hs hc
structure KWF (x:KS) (m:Nat):Prop where
 part:x.part<=m
 foot:x.k.foot.length<=m
 path:x.k.path.length=x.k.foot.length
 flank:x.k.flank.length=x.k.foot.length
 want:x.k.want.length=x.k.foot.length
 has:x.k.has.length<=m
 pts:x.k.pts.length<=m
 stand:x.k.stand.length<=m
 jny:x.k.jny.length=x.k.stand.length
 none:x.part<=1->x.k.foot=[]
 wr:∀l,l∈x.k.want->l.length=x.k.has.length
 pr:∀l,l∈x.k.path->l.length<=m
 fr:∀l,l∈x.k.flank->l.length<=m
 jr:∀l,l∈x.k.jny->l.length<=m
theorem lastRow_mem {l:List (List Nat)} (h:0 < l.length):z0e l∈l:=by
 unfold z0e;rw[List.getD_eq_getElem?_getD,List.getElem?_eq_getElem (by omega)];exact List.getElem_mem _
theorem z2u {l:List (List Nat)} {m:Nat} (h:∀r,r∈l->r.length<=m):(z0e l).length<=m:=by
 by_cases h0:0 < l.length
 ·exact h _ (lastRow_mem h0)
 ·have:l=[]:=List.length_eq_zero_iff.1 (by omega)
  subst this;simp[z0e]
theorem z4n {α:Type} {l:List α} {x y:α} (h:y∈z0w l x):y∈l\/y=x:=by
 unfold z0w at h;rcases List.mem_or_eq_of_mem_set h with h | h
 ·exact .inl h
 ·exact .inr h
theorem KWF.step {x:KS} {m:Nat} (h:KWF x m) (s:ByteArray) (p:Nat):KWF (x.step s p) (m+1):=by
 have up:∀(b:Bool) (q:Nat),q<=m+1->x.part<=q->KWF ⟨x.k,q,b⟩ (m+1):=fun b q h1 h2=>
  ⟨h1,by have:=h.foot; show x.k.foot.length<=_; omega,h.path,h.flank,h.want,by have:=h.has; show x.k.has.length<=_; omega,by have:=h.pts; show x.k.pts.length<=_; omega,by have:=h.stand; show x.k.stand.length<=_; omega,h.jny,fun h3=>h.none (by have h3':q<=1:=h3; omega),h.wr,fun l hl=>Nat.le_succ_of_le (h.pr l hl),fun l hl=>Nat.le_succ_of_le (h.fr l hl),fun l hl=>Nat.le_succ_of_le (h.jr l hl)⟩
 have hp:=h.part;have hf:=h.foot;have hh:=h.has;have hq:=h.pts;have hs:=h.stand;have pr:=fun l hl=>Nat.le_succ_of_le (h.pr l hl);have fr:=fun l hl=>Nat.le_succ_of_le (h.fr l hl);have jr:=fun l hl=>Nat.le_succ_of_le (h.jr l hl);unfold KS.step;by_cases c1:pk s p=47
 ·rw[if_pos c1]; exact up _ _ (by omega) (by omega)
 rw[if_neg c1];by_cases c2:pk s p=44
 ·rw[if_pos c2]; exact up _ _ (by omega) (by omega)
 rw[if_neg c2];by_cases c3:pk s p=33
 ·rw[if_pos c3]; exact up _ _ (by omega) (by omega)
 rw[if_neg c3];by_cases c4:x.part=1
 ·rw[if_pos c4]
  have h0:=h.none (by omega);have hw0:x.k.want=[]:=List.length_eq_zero_iff.1 (by rw[h.want,h0]; rfl);refine⟨by show x.part<=_; omega,by show x.k.foot.length<=_; omega,h.path,h.flank,h.want,?_,?_,by show x.k.stand.length<=_; omega,h.jny,fun _=>h0,?_,pr,fr,jr⟩
  ·show (x.k.has++[pk s p==121]).length<=_; simp; omega
  ·show (if pk s p=121 then x.k.pts++[x.k.has.length] else x.k.pts).length<=_
   split
   ·simp; omega
   ·omega
  ·intro l hl
   have hl':l∈x.k.want:=hl;rw[hw0] at hl'; simp at hl'
 rw[if_neg c4];by_cases c5:x.part=2
 ·rw[if_pos c5]
  have hn:x.part<=1->False:=fun h=>by omega
  unfold KP.route;by_cases d1:z48 s p=true
  ·rw[if_pos d1]
   unfold KP.opn;refine⟨by show x.part<=_; omega,by simp; omega,by simp; exact h.path,by simp; exact h.flank,by simp; exact h.want,by show x.k.has.length<=_; omega,by show x.k.pts.length<=_; omega,by show x.k.stand.length<=_; omega,h.jny,fun e=>(hn e).elim,?_,?_,?_,jr⟩
   ·intro l hl
    rcases List.mem_append.1 hl with hl | hl
    ·exact h.wr l hl
    ·rw[List.mem_singleton.1 hl]; simp
   ·intro l hl
    rcases List.mem_append.1 hl with hl | hl
    ·exact pr l hl
    ·rw[List.mem_singleton.1 hl]; simp
   ·intro l hl
    rcases List.mem_append.1 hl with hl | hl
    ·exact fr l hl
    ·rw[List.mem_singleton.1 hl]; simp
  rw[if_neg d1];by_cases d2:pk s p=43\/pk s p=45
  ·rw[if_pos d2]
   refine⟨by show x.part<=_; omega,by show x.k.foot.length<=_; omega,h.path,h.flank,by simp[z1q]; exact h.want,by show x.k.has.length<=_; omega,by show x.k.pts.length<=_; omega,by show x.k.stand.length<=_; omega,h.jny,fun e=>(hn e).elim,?_,pr,fr,jr⟩;intro l hl;have hl':l∈z0w x.k.want ((z0e x.k.want).set (pk s (p - 1) - 97) (pk s p)):=hl;show l.length=x.k.has.length;by_cases hz:0 < x.k.want.length
   ·rcases z4n hl' with e | e
    ·exact h.wr l e
    ·rw[e,List.length_set]; exact h.wr _ (lastRow_mem hz)
   ·have e0:x.k.want=[]:=List.length_eq_zero_iff.1 (by omega)
    rw[e0] at hl';simp[z0w] at hl'
  rw[if_neg d2];by_cases d3:inB 97 112 (pk s p)=true
  ·rw[if_pos d3]
   by_cases d4:x.bes=true
   ·rw[if_pos d4]
    refine⟨by show x.part<=_; omega,by show x.k.foot.length<=_; omega,h.path,by simp[z1q]; exact h.flank,h.want,by show x.k.has.length<=_; omega,by show x.k.pts.length<=_; omega,by show x.k.stand.length<=_; omega,h.jny,fun e=>(hn e).elim,h.wr,pr,?_,jr⟩;intro l hl;rcases z4n hl with e | e
    ·exact fr l e
    ·rw[e,List.length_append]; have:=z2u h.fr; simp; exact this
   ·rw[if_neg d4]
    refine⟨by show x.part<=_; omega,by show x.k.foot.length<=_; omega,by simp[z1q]; exact h.path,h.flank,h.want,by show x.k.has.length<=_; omega,by show x.k.pts.length<=_; omega,by show x.k.stand.length<=_; omega,h.jny,fun e=>(hn e).elim,h.wr,?_,fr,jr⟩;intro l hl;rcases z4n hl with e | e
    ·exact pr l e
    ·rw[e,List.length_append]; have:=z2u h.pr; simp; exact this
  ·rw[if_neg d3]; exact up _ _ (by omega) (by omega)
 rw[if_neg c5];by_cases c6:x.part=3
 ·rw[if_pos c6]
  have hn:x.part<=1->False:=fun h=>by omega
  unfold KP.train;by_cases d1:z48 s p=true
  ·rw[if_pos d1]
   refine⟨by show x.part<=_; omega,by show x.k.foot.length<=_; omega,h.path,h.flank,h.want,by show x.k.has.length<=_; omega,by show x.k.pts.length<=_; omega,by simp; omega,by simp; exact h.jny,fun e=>(hn e).elim,h.wr,pr,fr,?_⟩;intro l hl;rcases List.mem_append.1 hl with hl | hl
   ·exact jr l hl
   ·rw[List.mem_singleton.1 hl]; simp
  ·rw[if_neg d1]
   refine⟨by show x.part<=_; omega,by show x.k.foot.length<=_; omega,h.path,h.flank,h.want,by show x.k.has.length<=_; omega,by show x.k.pts.length<=_; omega,by show x.k.stand.length<=_; omega,by simp[z1q]; exact h.jny,fun e=>(hn e).elim,h.wr,pr,fr,?_⟩;intro l hl;rcases z4n hl with e | e
   ·exact jr l e
   ·rw[e,List.length_append]; have:=z2u h.jr; simp; exact this
 ·rw[if_neg c6]; exact up _ _ (by omega) (by omega)
theorem kst_wf (s:ByteArray):∀m,KWF (kst s m) m
 | 0=>⟨Nat.le_refl _,Nat.le_refl _,rfl,rfl,rfl,Nat.le_refl _,Nat.le_refl _,Nat.le_refl _,rfl,fun _=>rfl,fun l hl=>by simp[kst,KP0] at hl,fun l hl=>by simp[kst,KP0] at hl,fun l hl=>by simp[kst,KP0] at hl,fun l hl=>by simp[kst,KP0] at hl⟩
 | m+1=>(kst_wf s m).step s (3+m)
theorem kst_succ (s:ByteArray) (j:Nat) (h:3<=j):kst s (j+1 - 3)=(kst s (j - 3)).step s j:=by
 have e1:j+1 - 3=(j - 3)+1:=by omega
 have e2:3+(j - 3)=j:=by omega
 rw[e1];show (kst s (j - 3)).step s (3+(j - 3))=_;rw[e2]
theorem KM.init (w:World) (T D Q:Nat):KM w.heap.size (w.alloc (.cells #[.int .i64 T,.int .i64 D,.int .i64 Q,.slice none 0 0,.slice none 0 0,.slice none 0 0,.slice none 0 0,.slice none 0 0,.slice none 0 0,.slice none 0 0,.slice none 0 0] 53)) w.heap.size T D Q KP0 (fun _ _=>.slice none 0 0):=by
 refine⟨heap_alloc_new _ _,Nat.le_refl _,fun i r hk=>?_,fun i r j q _ _ _ b hb=>by cases hb⟩;have e:kcont KP0 (fun _ _=>.slice none 0 0) i r=[]:=by
  rcases hk with ⟨h1,h2,-⟩ | ⟨-,h⟩ | ⟨-,h⟩ | ⟨-,h⟩ | ⟨-,h⟩
  ·have:i=3\/i=4\/i=5\/i=6\/i=7\/i=8\/i=9\/i=10:=by omega
   rcases this with rfl | rfl | rfl | rfl | rfl | rfl | rfl | rfl <;> rfl
  all_goals simp[KP0] at h
 rw[e];exact World.ownsRow_nil _ _ _ _
theorem z18 (s:ByteArray) (i:Nat) (h:i < s.size):s[i].toNat=pk s i:=by
 unfold pk;rw[List.getD_eq_getElem?_getD,List.getElem?_eq_getElem (by simpa using h)];rfl
theorem pk_256 (s:ByteArray) (i:Nat):pk s i < 256:=by
 unfold pk;exact UInt8.toNat_lt _
def KPlanM (n:Nat) (w':World) (g:Nat) (T D Q:Nat) (k:KP):Prop:=∃V,KM n w' g T D Q k V
set_option maxRecDepth 100000 in
set_option maxHeartbeats 8000000 in
theorem kread_any (s:ByteArray) (w:World) (hs:s.size<=256) (h3:3<=s.size) (hd:∀i,i < 3->48<=pk s i/\pk s i<=57) (hK:∀i,3<=i->i < s.size->KOK (kst s (i - 3)) s i) :
  Calls Tryz.prog 31 #[.string s] w fun e w'=>e=.returned (.pointer (some ⟨w.heap.size,0,none⟩))/\KPlanM w.heap.size w' w.heap.size (pk s 0 - 48) (pk s 1 - 48) (pk s 2 - 48) (kst s (s.size - 3)).k/\Below w.heap.size w w':=by
 obtain⟨z0,hz0⟩:∃z,s[0].toNat=z:=⟨_,rfl⟩
 obtain⟨z1,hz1⟩:∃z,s[1].toNat=z:=⟨_,rfl⟩
 obtain⟨z2,hz2⟩:∃z,s[2].toNat=z:=⟨_,rfl⟩
 have e0:pk s 0=z0:=(z18 s 0 (by omega)).symm.trans hz0;have e1:pk s 1=z1:=(z18 s 1 (by omega)).symm.trans hz1;have e2:pk s 2=z2:=(z18 s 2 (by omega)).symm.trans hz2;have d0:=hd 0 (by omega);have d1:=hd 1 (by omega);have d2:=hd 2 (by omega);rw[e0] at d0;rw[e1] at d1;rw[e2] at d2;rw[e0,e1,e2];obtain⟨T,hT⟩:∃T,T=z0 - 48:=⟨_,rfl⟩
 obtain⟨D,hD⟩:∃D,D=z1 - 48:=⟨_,rfl⟩
 obtain⟨Q,hQ⟩:∃Q,Q=z2 - 48:=⟨_,rfl⟩
 rw[<-hT,<-hD,<-hQ];have v0:IntKind.u8.wrap ((z0:Int) - 48)=(T:Int):=by rw[Go.IntWalk.u8_in _ (by omega)]; omega
 have v1:IntKind.u8.wrap ((z1:Int) - 48)=(D:Int):=by rw[Go.IntWalk.u8_in _ (by omega)]; omega
 have v2:IntKind.u8.wrap ((z2:Int) - 48)=(Q:Int):=by rw[Go.IntWalk.u8_in _ (by omega)]; omega
 have u0:IntKind.i64.wrap (T:Int)=T:=Go.IntWalk.i64_in _ (by omega);have u1:IntKind.i64.wrap (D:Int)=D:=Go.IntWalk.i64_in _ (by omega);have u2:IntKind.i64.wrap (Q:Int)=Q:=Go.IntWalk.i64_in _ (by omega);have s0:(0:Int) < s.size:=by omega
 have s1:(1:Int) < s.size:=by omega
 have s2:(2:Int) < s.size:=by omega
 have HIN:=zh (KM.init w T D Q);have HKK:=zh hK;have HU:=zh (And.intro u0 (And.intro u1 u2));clear hd e0 e1 e2 hT hD hQ hK u0 u1 u2;go_enter Tryz.func31,Tryz.ntmps31
 go_wp2
 obtain⟨u0,u1,u2⟩:=uh HU;go_region
 have HB0:=zh (show Below w.heap.size w (w.alloc (.cells #[.int .i64 T,.int .i64 D,.int .i64 Q,.slice none 0 0,.slice none 0 0,.slice none 0 0,.slice none 0 0,.slice none 0 0,.slice none 0 0,.slice none 0 0,.slice none 0 0] 53)).drew from (z01 _ _).drew);have HK0:=zh ((uh HIN).below ((Below.refl _ _).drew));generalize (w.alloc (.cells #[.int .i64 T,.int .i64 D,.int .i64 Q,.slice none 0 0,.slice none 0 0,.slice none 0 0,.slice none 0 0,.slice none 0 0,.slice none 0 0,.slice none 0 0,.slice none 0 0] 53)).drew=W0 at *;clear u0 u1 u2 v0 v1 v2 s0 s1 s2 HU HIN d0 d1 d2 hz0 hz1 hz2;go_wp2
 go_loopw [4,5,6] (fun p b i wr=>∃(j:Nat) (V:Nat->Nat->Value),p=.int .i64 ((kst s (j - 3)).part:Nat)/\b=.bool (kst s (j - 3)).bes/\i=.int .i64 j/\3<=j/\j<=s.size/\KM w.heap.size wr w.heap.size T D Q (kst s (j - 3)).k V/\Below w.heap.size w wr) (fun _ _ i _=>s.size - (intOf i).toNat)
 case atStart=>exact⟨3,_,rfl,rfl,rfl,Nat.le_refl _,h3,uh HK0,uh HB0⟩
 case round=>
  obtain⟨j,V,rfl,rfl,rfl,hj3,hjs,hKM,hB⟩:=hrel;have HB:=zh hB;have hn:=hB.size;clear hB HB0 HK0;by_cases hlt:j < s.size
  ·have hwf:=kst_wf s (j - 3)
   have hok:=uh HKK j hj3 hlt;have hst:=kst_succ s j hj3;obtain⟨p,hp⟩:∃p,p+1=j:=⟨j - 1,by omega⟩
   have hps:p < s.size:=by omega
   obtain⟨c,hce⟩:∃c,s[j].toNat=c:=⟨_,rfl⟩
   obtain⟨b,hbe⟩:∃c,s[p].toNat=c:=⟨_,rfl⟩
   have pc:pk s j=c:=(z18 s j hlt).symm.trans hce;have pb:pk s (j - 1)=b:=by
    have e:j - 1=p:=by omega
    rw[e]; exact(z18 s p hps).symm.trans hbe
   have hc256:c < 256:=by rw[<-pc]; exact pk_256 s j
   have hb256:b < 256:=by rw[<-pb]; exact pk_256 s (j - 1)
   obtain⟨fr,hfr⟩:∃fr,fr=z48 s j:=⟨_,rfl⟩
   have hfb:fr=((b==47)||(b==44)):=by rw[hfr]; unfold z48; rw[pb]
   obtain⟨X,hX⟩:∃X,X=kst s (j - 3):=⟨_,rfl⟩
   rw[<-hX] at hwf hok hst hKM ⊢;have hss:X.step s j=if c=47 then ⟨X.k,X.part+1,false⟩ else if c=44 then ⟨X.k,X.part,false⟩ else if c=33 then ⟨X.k,X.part,true⟩ else if X.part=1 then ⟨X.k.sec c,X.part,X.bes⟩ else if X.part=2 then ⟨X.k.route c b fr X.bes,X.part,X.bes⟩ else if X.part=3 then ⟨X.k.train c fr,X.part,X.bes⟩ else X:=by
    unfold KS.step;rw[pc,pb,hfr]
   have hkr:=hok.rt;have hkt:=hok.tn;rw[pc,pb,<-hfr] at hkr;rw[pc,<-hfr] at hkt;have HRT:=zh hkr;have HTN:=zh hkt;have HWF:=zh hwf;have HST:=zh (hst.trans hss);have HKM:=zh hKM;have hpt:X.part<=300:=by have:=hwf.part; omega
   have HFB:=zh hfb;have hjp:(j:Int) - 1=p:=by omega
   have l0:(j:Int) < s.size:=by omega
   have l1:(p:Int) < s.size:=by omega
   clear hwf hok hst hss hkr hkt hKM hX hfr hfb pc pb;obtain⟨k,pt,bs⟩:=X;simp only at hpt HRT HTN HST HKM ⊢;go_upto_region 8 with fail
   go_cut [8] from 23 to 79 (fun v wx=>v=.bool fr/\wx=wr)
   case first=>
    by_cases b1:b=47
    ·have b1':(b:Int)=47:=by omega
     go_wp2_with fail
     go_meet
     exact⟨by rw[uh HFB]; simp[b1],rfl⟩
    ·have b1b:((b:Int)==47)=false:=by simp; omega
     by_cases b2:b=44
     ·go_wp2_with fail
      go_meet
      exact⟨by rw[uh HFB]; simp[b2],rfl⟩
     ·have b2b:((b:Int)==44)=false:=by simp; omega
      go_wp2_with fail
      go_meet
      exact⟨by rw[uh HFB]; simp[b1,b2],rfl⟩
   case rest=>
    obtain⟨rfl,rfl⟩:=hcut;have hend:∀(wz:World) (Y:KS) (V':Nat->Nat->Value),kst s (j+1 - 3)=Y->KM w.heap.size wz w.heap.size T D Q Y.k V'->Below w.heap.size w wz->∀p' b':Value,p'=.int .i64 (Y.part:Nat)->b'=.bool Y.bes->∀i':Value,i'=.int .i64 ((j+1:Nat):Int) →
      (∃(j':Nat) (V:Nat->Nat->Value),p'=.int .i64 ((kst s (j' - 3)).part:Nat)/\b'=.bool (kst s (j' - 3)).bes/\i'=.int .i64 j'/\3<=j'/\j'<=s.size/\KM w.heap.size wz w.heap.size T D Q (kst s (j' - 3)).k V/\Below w.heap.size w wz)/\s.size - (intOf i').toNat < s.size - (intOf (.int .i64 (j:Int))).toNat:=by
     intro wz Y V' hY h1 h2 p' b' hp' hb' i' hi';refine⟨⟨j+1,V',by rw[hY]; exact hp',by rw[hY]; exact hb',hi',by omega,by omega,by rw[hY]; exact h1,h2⟩,?_⟩;rw[hi'];simp[intOf]; omega
    have HEND:=zh hend;have hbt:∀(w1 w2:World),Below w.heap.size w1 w2->Below w.heap.size w w1->Below w.heap.size w w2:=fun _ _ a b=>b.trans a;have HBT:=zh hbt;clear hend hbt;by_cases q1:c=47
    ·have HE:=zh ((uh HST).trans (if_pos q1))
     subst q1;go_wp2
     exact uh HEND _ _ _ (uh HE) (uh HKM) (uh HB) _ _ (by go_num) rfl _ (by go_num)
    have q1b:((c:Int)==47)=false:=by simp; omega
    have HST1:=zh ((uh HST).trans (if_neg q1));by_cases q2:c=44
    ·have HE:=zh ((uh HST1).trans (if_pos q2))
     subst q2;go_wp2
     exact uh HEND _ _ _ (uh HE) (uh HKM) (uh HB) _ _ rfl rfl _ (by go_num)
    have q2b:((c:Int)==44)=false:=by simp; omega
    have HST2:=zh ((uh HST1).trans (if_neg q2));by_cases q3:c=33
    ·have HE:=zh ((uh HST2).trans (if_pos q3))
     subst q3;go_wp2
     exact uh HEND _ _ _ (uh HE) (uh HKM) (uh HB) _ _ rfl rfl _ (by go_num)
    have q3b:((c:Int)==33)=false:=by simp; omega
    have HST3:=zh ((uh HST2).trans (if_neg q3));clear HST HST1 HST2;by_cases q4:pt=1
    ·have HE:=zh ((uh HST3).trans (if_pos q4))
     have wf:=uh HWF;have HC:=zh (ksection_any w.heap.size w.heap.size T D Q k V c _ (uh HKM) (by have:=wf.has; simp only at this; omega) (by have:=wf.pts; simp only at this; omega));clear wf;subst q4;go_wp2_with fail
     refine(uh HC).mono ?_;rintro e w1 ⟨rfl,⟨V1,hk1⟩,hb1⟩;have HK1:=zh hk1;have HB1:=zh (uh HBT _ _ hb1 (uh HB));clear hk1 hb1;go_wp2
     exact uh HEND _ _ _ (uh HE) (uh HK1) (uh HB1) _ _ rfl rfl _ (by go_num)
    have q4b:((pt:Int)==1)=false:=by simp; omega
    have HST4:=zh ((uh HST3).trans (if_neg q4));by_cases q5:pt=2
    ·have HE:=zh ((uh HST4).trans (if_pos q5))
     have wf:=uh HWF;have hR:=uh HRT q5 q1 q2 q3;have hrtb:RtB k c b fr:=by
      have w1:=wf.foot;have w2:=wf.has;simp only at w1 w2;have w3:(z0e k.want).length<=300:=z2u (fun r hr=>by have:=wf.wr r hr; simp only at this; omega);refine⟨by omega,wf.path,wf.flank,wf.want,by omega,hc256,hb256,hR.1,fun h=>(hR.2 h).1,fun h h'=>?_,by omega,?_,?_⟩
      ·obtain⟨g1,g2⟩:=(hR.2 h).2 h'
       refine⟨g1,?_⟩;have hz:0 < k.want.length:=by
        have:=wf.want;simp only at this;rw[this]; exact(hR.2 h).1
       have:=wf.wr _ (lastRow_mem hz);simp only at this;rw[this]; exact g2
      ·have:=z2u wf.pr; simp only at this; omega
      ·have:=z2u wf.fr; simp only at this; omega
     have HC:=zh (kroute_any w.heap.size w.heap.size T D Q k V c b fr bs _ (uh HKM) hrtb);clear wf hR hrtb;subst q5;go_wp2_with fail
     refine(uh HC).mono ?_;rintro e w1 ⟨rfl,⟨V1,hk1⟩,hb1⟩;have HK1:=zh hk1;have HB1:=zh (uh HBT _ _ hb1 (uh HB));clear hk1 hb1;go_wp2
     exact uh HEND _ _ _ (uh HE) (uh HK1) (uh HB1) _ _ rfl rfl _ (by go_num)
    have q5b:((pt:Int)==2)=false:=by simp; omega
    have HST5:=zh ((uh HST4).trans (if_neg q5));by_cases q6:pt=3
    ·have HE:=zh ((uh HST5).trans (if_pos q6))
     have wf:=uh HWF;have hR:=uh HTN q6 q1 q2 q3;have HC:=zh (ktrain_any w.heap.size w.heap.size T D Q k V c fr _ (uh HKM) (by have:=wf.stand; simp only at this; omega) (by have:=wf.stand; have:=wf.jny; simp only at *; omega) (by have:=z2u wf.jr; simp only at this; omega) hc256 hR.1 hR.2);clear wf hR;subst q6;go_wp2_with fail
     refine(uh HC).mono ?_;rintro e w1 ⟨rfl,⟨V1,hk1⟩,hb1⟩;have HK1:=zh hk1;have HB1:=zh (uh HBT _ _ hb1 (uh HB));clear hk1 hb1;go_wp2
     exact uh HEND _ _ _ (uh HE) (uh HK1) (uh HB1) _ _ rfl rfl _ (by go_num)
    have q6b:((pt:Int)==3)=false:=by simp; omega
    have HE:=zh ((uh HST5).trans (if_neg q6));go_wp2
    exact uh HEND _ _ _ (uh HE) (uh HKM) (uh HB) _ _ rfl rfl _ (by go_num)
  ·have l0:¬(j:Int) < s.size:=by omega
   have ej:j=s.size:=by omega
   subst ej;have HKM:=zh hKM;clear hKM;go_wp2
   go_ret
   exact⟨rfl,⟨V,uh HKM⟩,uh HB⟩
end Go.Proofs.YtkbpocecbcaiiabGreatDoor
namespace Go.Proofs.YtkbpocecbcaiiabGreatDoor
open Go.RowKit
end Go.Proofs.YtkbpocecbcaiiabGreatDoor
namespace Go.Proofs.YtkbpocecbcaiiabGreatDoor
open Go.RowKit
def z26 (l:List Nat) (x:Int):Int:=(l.filter (fun y:Nat=>((y:Int)==x))).length
theorem timesZ_bd (l:List Nat) (x:Int):0<=z26 l x/\z26 l x<=l.length:=by
 unfold z26; exact⟨by omega,by have:=List.length_filter_le (fun y:Nat=>((y:Int)==x)) l; omega⟩
theorem timesZ_snoc (l:List Nat) (x:Int) (k:Nat) (h:k < l.length):z26 (l.take (k+1)) x=z26 (l.take k) x+if ((l[k]:Int)==x)=true then 1 else 0:=by
 unfold z26;rw[List.take_succ_eq_append_getElem h,List.filter_append];by_cases hh:((l[k]:Int)==x)=true <;> simp[hh]
set_option maxHeartbeats 400000 in
theorem z12 (v:Value) (l:List Nat) (x:Int) (w:World) (h:SlAt 3 1 CInt w v l) :
  Calls Tryz.prog 138 #[v,.int .i64 x] w fun e w'=>e=.returned (.int .i64 (z26 l x))/\w'=w:=by
 obtain⟨ao,cap,rfl,h1,h2,h3⟩:=h.open;clear h;unfold maxLen at h2;go_enter Tryz.func138,Tryz.ntmps138
 go_wp2
 go_loop [5,6] (fun n i=>∃k:Nat,k<=l.length/\i=.int .i64 k/\n=.int .i64 (z26 (l.take k) x)) (fun _ i=>l.length - (intOf i).toNat)
 case atStart=>exact⟨0,Nat.zero_le _,rfl,rfl⟩
 case round=>
  obtain⟨k,hk,rfl,rfl⟩:=hrel;have hd:=timesZ_bd (l.take k) x;have hl:(l.take k).length<=k:=List.length_take_le _ _;by_cases hlt:k < l.length
  ·obtain⟨g,off,hao,-,cs,-,hC,hc⟩:=h3 k hlt
   unfold CInt at hC;subst hC;have hc0:=hc 0 (by omega);have HS:=zh (timesZ_snoc l x k hlt);clear hc h3;simp at hc0;go_wp2
   ·have ht:(((l[k]:Nat):Int)==x)=true:=by assumption
    exact⟨⟨k+1,by omega,by go_num,by rw[uh HS,if_pos ht]⟩,by simp[intOf]; omega⟩
   ·have ht:(((l[k]:Nat):Int)==x)=false:=by assumption
    exact⟨⟨k+1,by omega,by go_num,by rw[uh HS,if_neg (by rw[ht]; simp)]; simp⟩,by simp[intOf]; omega⟩
  ·go_wp2
   go_ret
   exact⟨z2i (by rw[List.take_of_length_le (by omega)]),rfl⟩
theorem lastN_eq (p:List (Nat×Nat)) (h:p≠[]):∃hk:p.length - 1 < (secs p).length,(secs p)[p.length - 1]=lastN p:=by
 have hp:0 < p.length:=List.length_pos_iff.2 h;refine⟨by simp[secs]; omega,?_⟩;simp[secs,lastN,List.getLastD_eq_getLast?,List.getLast?_eq_getElem?,List.getElem?_eq_getElem (show p.length - 1 < p.length by omega)]
set_option maxHeartbeats 400000 in
theorem End_any (v:Value) (L:Lay) (r:Nat) (w:World) (h:RPlan w v L) (hr:r < L.rts.length) (hp:L.Paths) :
  Calls Tryz.prog 141 #[v,.int .i64 r] w fun e w'=>e=.returned (.int .i64 (L.endOf r))/\Below w.heap.size w w':=by
 obtain⟨vh,vr,vt,rfl,-,hR,-⟩:=h;obtain⟨ao,cap,rfl,h1,h2,h3⟩:=SlAt.open hR;obtain⟨g,off,rfl,hg,cs,-,hC,hc⟩:=h3 r hr;obtain⟨vp,vs,vf,vl,rfl,hP,-,-,-⟩:=hC;have hc1:=hc 1 (by omega);obtain⟨ao2,cap2,rfl,g1,g2,g3⟩:=SlAt.open hP;have hne:L.rts[r].path≠[]:=hp _ (List.getElem_mem hr);obtain⟨hk,he⟩:=lastN_eq _ hne;have hpos:0 < L.rts[r].path.length:=List.length_pos_iff.2 hne;obtain⟨gp,offp,rfl,hgp,cs2,-,hC2,hd⟩:=g3 _ hk;unfold CInt at hC2;subst hC2;have hd0:=hd 0 (by omega);have hend:L.endOf r=lastN L.rts[r].path:=by simp[Lay.endOf,Lay.rt,List.getD_eq_getElem?_getD,List.getElem?_eq_getElem hr]
 rw[hend];rw[he] at hd0;clear hc hd g3 h3 hR hP hend he hp;unfold maxLen at h2 g2;generalize L.rts[r].path=p at *;simp[secs] at hd0 hc1 g1 hk;go_enter Tryz.func141,Tryz.ntmps141
 go_wp2
 go_ret
 exact⟨rfl,z01 _ _⟩
theorem z3u {α:Type} (p:α->Bool) (l:List α) (k:Nat) (h:k < l.length):(l.take (k+1)).any p=((l.take k).any p||p l[k]):=by
 rw[List.take_succ_eq_append_getElem h,List.any_append,List.any_cons,List.any_nil,Bool.or_false]
theorem rt_eq (L:Lay) (r:Nat) (h:r < L.rts.length):L.rt r=L.rts[r]:=by
 simp[Lay.rt,List.getD_eq_getElem?_getD,List.getElem?_eq_getElem h]
set_option maxHeartbeats 400000 in
theorem ends_any (v:Value) (L:Lay) (s:Nat) (w:World) (h:RPlan w v L) (hp:L.Paths) :
  Calls Tryz.prog 139 #[v,.int .i64 s] w fun e w'=>e=.returned (.bool (L.endsB s))/\Below w.heap.size w w':=by
 have HR:=zh h;obtain⟨vh,vr,vt,rfl,-,hR,-⟩:=h;obtain⟨ao,cap,rfl,h1,h2,-⟩:=SlAt.open hR;clear hR;unfold maxLen at h2;go_enter Tryz.func139,Tryz.ntmps139
 go_wp2
 go_loopw [5] (fun i wr=>∃k:Nat,k<=L.rts.length/\i=.int .i64 k/\(L.rts.take k).any (fun r=>lastN r.path==s)=false ∧
   Below (w.heap.size+1) (w.alloc (z1k L vh (.slice ao L.rts.length cap) vt)) wr) (fun i _=>L.rts.length - (intOf i).toNat)
 case atStart=>exact⟨0,Nat.zero_le _,rfl,rfl,Below.refl _ _⟩
 case round=>
  obtain⟨k,hk,rfl,hz,hb⟩:=hrel;have HZ:=zh hz;have HB:=zh hb;obtain⟨q0,q1,q2,q3,q4,q5,qs⟩:=z1u hb;clear hz hb;by_cases hlt:k < L.rts.length
  ·have HA:=zh (z3u (fun r=>lastN r.path==s) L.rts k hlt)
   have HE:=zh (rt_eq L k hlt);go_wp2_with (go_at_call 141; refine(End_any _ L k _ ((uh HR).below (z09 (uh HB))) hlt hp).mono ?_; rintro e w' ⟨rfl,hb'⟩)
   ·have ht:((L.endOf k:Int)==(s:Int))=true:=by assumption
    have hs:L.endsB s=true:=by
     rw[Lay.endsB,List.any_eq_true];refine⟨L.rts[k],List.getElem_mem hlt,?_⟩;simp only[beq_iff_eq,Lay.endOf,uh HE] at ht ⊢;omega
    have hb3:=z09 ((uh HB).trans (hb'.mono (by omega)));go_ret
    exact⟨z04 hs.symm,hb3⟩
   ·have ht:((L.endOf k:Int)==(s:Int))=false:=by assumption
    have hs:(lastN L.rts[k].path==s)=false:=by
     simp only[beq_eq_false_iff_ne,Lay.endOf,uh HE,ne_eq] at ht ⊢;omega
    exact⟨⟨k+1,by omega,by go_num,by rw[uh HA,uh HZ,hs]; rfl,(uh HB).trans (hb'.mono (by omega))⟩,by simp[intOf]; omega⟩
  ·have hs:L.endsB s=false:=by rw[Lay.endsB,<-(uh HZ),List.take_of_length_le (by omega)]
   have hb3:=z09 (uh HB);go_wp2
   go_ret
   exact⟨z04 hs.symm,hb3⟩
theorem times_has (p:List (Nat×Nat)) (s:Nat):decide (0 < z26 (secs p) s)=has p s:=by
 unfold z26 has;rw[Bool.eq_iff_iff];simp only[decide_eq_true_eq,List.contains_iff_mem];constructor
 ·intro h
  have h:0 < ((secs p).filter (fun y:Nat=>((y:Int)==(s:Int)))).length:=by omega
  obtain⟨x,hx⟩:=List.exists_mem_of_length_pos h;simp only[List.mem_filter,beq_iff_eq] at hx;have:x=s:=by omega
  exact this ▸ hx.1
 ·intro h
  have:s∈(secs p).filter (fun y:Nat=>((y:Int)==(s:Int))):=by simp[List.mem_filter,h]
  have:=List.length_pos_of_mem this;omega
set_option maxHeartbeats 400000 in
theorem flanked_any (v:Value) (L:Lay) (s:Nat) (w:World) (h:RPlan w v L) :
  Calls Tryz.prog 140 #[v,.int .i64 s] w fun e w'=>e=.returned (.bool (L.flankedB s))/\Below w.heap.size w w':=by
 obtain⟨vh,vr,vt,rfl,-,hR,-⟩:=h;obtain⟨ao,cap,rfl,h1,h2,h3⟩:=SlAt.open hR;clear hR;unfold maxLen at h2;go_enter Tryz.func140,Tryz.ntmps140
 go_wp2
 go_loopw [5] (fun i wr=>∃k:Nat,k<=L.rts.length/\i=.int .i64 k/\(L.rts.take k).any (fun r=>has r.flank s)=false ∧
   Below (w.heap.size+1) (w.alloc (z1k L vh (.slice ao L.rts.length cap) vt)) wr) (fun i _=>L.rts.length - (intOf i).toNat)
 case atStart=>exact⟨0,Nat.zero_le _,rfl,rfl,Below.refl _ _⟩
 case round=>
  obtain⟨k,hk,rfl,hz,hb⟩:=hrel;have HZ:=zh hz;have HB:=zh hb;obtain⟨q0,q1,q2,q3,q4,q5,qs⟩:=z1u hb;clear hz;by_cases hlt:k < L.rts.length
  ·have HA:=zh (z3u (fun r=>has r.flank s) L.rts k hlt)
   obtain⟨g,off,hao,hg,cs,-,hC,hc⟩:=h3 k hlt;subst hao;obtain⟨vp,vs,vf,vl,rfl,-,-,hF,-⟩:=hC;have hc1:=hc 3 (by omega);rw[<-(z09 hb).cell (p:=⟨g,_,none⟩) hg] at hc1;have HF:=zh (Ints.below hF (z09 hb));obtain⟨ao2,cap2,rfl,g1,g2,-⟩:=SlAt.open hF;have HT:=zh (times_has L.rts[k].flank s);clear hc h3 hF hb;simp at hc1;go_wp2_with (go_at_call 138; refine(z12 _ _ _ _ (uh HF)).mono ?_; rintro e w' ⟨rfl,rfl⟩)
   ·have ht:0 < z26 (secs L.rts[k].flank) s:=by assumption
    have hs:=zh (show L.flankedB s=true by
     rw[Lay.flankedB,List.any_eq_true];exact⟨L.rts[k],List.getElem_mem hlt,by rw[<-uh HT]; simpa using ht⟩)
    have hb3:=z09 (uh HB);go_ret
    exact⟨z04 (uh hs).symm,hb3⟩
   ·have ht:z26 (secs L.rts[k].flank) s<=0:=by assumption
    have hs:has L.rts[k].flank s=false:=by rw[<-uh HT,decide_eq_false_iff_not]; omega
    exact⟨⟨k+1,by omega,by go_num,by rw[uh HA,uh HZ,hs]; rfl,uh HB⟩,by simp[intOf]; omega⟩
  ·have hs:=zh (show L.flankedB s=false by rw[Lay.flankedB,<-(uh HZ),List.take_of_length_le (by omega)])
   have hb3:=z09 (uh HB);clear hb;go_wp2
   go_ret
   exact⟨z04 (uh hs).symm,hb3⟩
def optZ:Option Nat->Int
 | none=>-1
 | some s=>s
theorem tn_eq (L:Lay) (t:Nat) (h:t < L.tns.length):L.tn t=L.tns[t]:=by
 simp[Lay.tn,List.getD_eq_getElem?_getD,List.getElem?_eq_getElem h]
theorem getD_eq (l:List Nat) (t:Nat) (h:t < l.length):l.getD t 0=l[t]:=by
 simp[List.getD_eq_getElem?_getD,List.getElem?_eq_getElem h]
set_option maxHeartbeats 400000 in
theorem holds_any (v va:Value) (L:Lay) (at_:List Nat) (t:Nat) (w:World) (h:RPlan w v L) (ha:Ints w va at_) (ht:t < at_.length) (hl:at_.length=L.tns.length) (hp:L.Paths) (hj:L.Jnys) :
  Calls Tryz.prog 170 #[v,va,.int .i64 t] w fun e w'=>e=.returned (.int .i64 (optZ (L.holds at_ t)))/\Below w.heap.size w w':=by
 have HR:=zh h;obtain⟨vh,vr,vt,rfl,-,-,hT⟩:=h;obtain⟨ao,cap,rfl,h1,h2,h3⟩:=SlAt.open hT;obtain⟨g,off,rfl,hg,cs,-,hC,hc⟩:=h3 t (by omega);obtain⟨vj,rfl,hJ⟩:=hC;have hc0:=hc 0 (by omega);have hc1:=hc 1 (by omega);obtain⟨aoj,capj,rfl,j1,j2,j3⟩:=SlAt.open hJ;obtain⟨aoa,capa,rfl,a1,a2,a3⟩:=SlAt.open ha;obtain⟨ga,offa,rfl,hga,cs2,-,hC2,hd⟩:=a3 t ht;unfold CInt at hC2;subst hC2;have hd0:=hd 0 (by omega);have htL:t < L.tns.length:=by omega
 have hspec:L.holds at_ t=if L.tns[t].jny.length<=at_[t] then none else if at_[t]=0 then some L.tns[t].start else some (L.endOf (L.tns[t].jny.getD (at_[t] - 1) 0)):=by
  simp only[Lay.holds,Lay.doneB,tn_eq L t htL,getD_eq at_ t ht,decide_eq_true_eq]
 rw[hspec];have hjn:∀r,r∈L.tns[t].jny->r < L.rts.length:=hj _ (List.getElem_mem htL);clear hc hd a3 h3 hT hJ ha hspec hj;generalize hzz:optZ _=z;unfold maxLen at h2 j2 a2;generalize L.tns[t].jny=jl at *;generalize L.tns[t].start=st at *;generalize at_[t]=n at *;simp at hc0 hc1 hd0;by_cases hdone:jl.length<=n
 ·have HZ:=zh (show z=-1 by rw[<-hzz,if_pos hdone]; rfl)
  clear hzz;go_enter Tryz.func170,Tryz.ntmps170
  go_wp2
  go_ret
  exact⟨z2i (uh HZ).symm,z01 _ _⟩
 by_cases hz:n=0
 ·have HZ:=zh (show z=st by rw[<-hzz,if_neg hdone,if_pos hz]; rfl)
  have hz':((n:Int)==0)=true:=by simp; omega
  have hdone':n < jl.length:=by omega
  clear hzz hz hdone;go_enter Tryz.func170,Tryz.ntmps170
  go_wp2
  go_ret
  exact⟨z2i (uh HZ).symm,z01 _ _⟩
 ·obtain⟨m,rfl⟩:∃m,n=m+1:=⟨n - 1,by omega⟩
  have hk:m < jl.length:=by omega
  obtain⟨gj,offj,rfl,hgj,cs3,-,hC3,he⟩:=j3 m hk;unfold CInt at hC3;subst hC3;have he0:=he 0 (by omega);simp at he0;have hjr:=hjn _ (List.getElem_mem hk);have HZ:=zh (show z=L.endOf jl[m] by rw[<-hzz,if_neg hdone,if_neg hz,Nat.add_sub_cancel,getD_eq jl m hk]; rfl);clear hzz;generalize jl[m]=r at *;have hz':(((m+1:Nat):Int)==0)=false:=by simp; omega
  have hdone':m+1 < jl.length:=by omega
  clear he j3 hjn hdone hz;simp only[Int.natCast_add,Int.natCast_one] at hd0 hz';have hlo:(0:Int)<=(m:Int):=by omega
  have hhi:(m:Int) < jl.length:=by omega
  go_enter Tryz.func170,Tryz.ntmps170
  go_wp2
  have hw1:IntKind.i64.wrap (m:Int)=m:=Go.IntWalk.i64_in _ (by omega);go_region_with (go_at_call 141; refine(End_any _ L r _ ((uh HR).below (by exact(z01 _ _).drew)) hjr hp).mono ?_; rintro e w' ⟨rfl,hb'⟩)
  all_goals
   have hb3:=((z01 w (z1k L vh vr (.slice (some ⟨g,off,none⟩) L.tns.length cap))).drew).trans (hb'.mono (B':=w.heap.size) (by simp));go_wp2
   go_ret
   exact⟨z2i (uh HZ).symm,hb3⟩
theorem all_drop_true {α:Type} (p:α->Bool) (l:List α) (n:Nat) (h:∀q (hq:q < l.length),n<=q->p l[q]=true):(l.drop n).all p=true:=by
 rw[List.all_eq_true];intro x hx;obtain⟨i,hi,rfl⟩:=List.getElem_of_mem hx;rw[List.getElem_drop];exact h _ _ (by omega)
theorem all_drop_false {α:Type} (p:α->Bool) (l:List α) (n q:Nat) (hq:q < l.length) (hn:n<=q) (h:p l[q]=false):(l.drop n).all p=false:=by
 rw[List.all_eq_false];refine⟨l[q],?_,by simp[h]⟩;rw[List.mem_iff_getElem];exact⟨q - n,by simp; omega,by rw[List.getElem_drop]; congr 1; omega⟩
theorem all_range_true (p:Nat->Bool) (n:Nat) (h:∀o,o < n->p o=true):(List.range n).all p=true:=by
 rw[List.all_eq_true]; intro x hx; exact h x (List.mem_range.1 hx)
theorem all_range_false (p:Nat->Bool) (n o:Nat) (ho:o < n) (h:p o=false):(List.range n).all p=false:=by
 rw[List.all_eq_false]; exact⟨o,List.mem_range.2 ho,by simp[h]⟩
theorem times_hits (p:List Nat) (o:Option Nat):decide (0 < z26 p (optZ o))=hits p o:=by
 cases o with
 | none=>
  have:z26 p (optZ none)=0:=by
   unfold z26 optZ;have:p.filter (fun y:Nat=>((y:Int)==(-1:Int)))=[]:=by
    rw[List.filter_eq_nil_iff]; intro y _; simp
   rw[this]; rfl
  rw[this]; rfl
 | some s=>
  have:=times_has (p.map (fun x=>(x,0))) s;have e:secs (p.map (fun x=>(x,0)))=p:=by simp[secs,Function.comp_def]
  rw[has,e] at this;exact this
set_option maxHeartbeats 1000000 in
theorem runs_any (v va:Value) (L:Lay) (at_:List Nat) (t:Nat) (w:World) (h:RPlan w v L) (ha:Ints w va at_) (ht:t < at_.length) (hl:at_.length=L.tns.length) (hp:L.Paths) (hj:L.Jnys) :
  Calls Tryz.prog 142 #[v,va,.int .i64 t] w fun e w'=>e=.returned (.bool (L.runsB at_ t))/\Below w.heap.size w w':=by
 have HR:=zh h;have HA:=zh ha;obtain⟨vh,vr,vt,rfl,-,hRt,hT⟩:=h;obtain⟨ao,cap,rfl,h1,h2,h3⟩:=SlAt.open hT;obtain⟨g,off,rfl,hg,cs,-,hC,hc⟩:=h3 t (by omega);obtain⟨vj,rfl,hJ⟩:=hC;have hc1:=hc 1 (by omega);obtain⟨aoj,capj,rfl,j1,j2,j3⟩:=SlAt.open hJ;obtain⟨aoa,capa,rfl,a1,a2,a3⟩:=SlAt.open ha;obtain⟨ga,offa,rfl,hga,cs2,-,hC2,hd⟩:=a3 t ht;unfold CInt at hC2;subst hC2;have hd0:=hd 0 (by omega);obtain⟨aor,capr,rfl,r1,r2,r3⟩:=SlAt.open hRt;have htL:t < L.tns.length:=by omega
 have hspec:L.runsB at_ t=(L.tns[t].jny.drop at_[t]).all (fun r=>(List.range at_.length).all (fun o=>o==t||!hits (secs (L.rt r).path) (L.holds at_ o))):=by
  simp only[Lay.runsB,tn_eq L t htL,getD_eq at_ t ht]
 rw[hspec];have hjn:∀r,r∈L.tns[t].jny->r < L.rts.length:=hj _ (List.getElem_mem htL);have HJ:=zh hj;have HL:=zh hl;have HP:=zh hp;clear hc hd a3 h3 hT hJ ha hspec hj hRt hp;unfold maxLen at h2 j2 a2 r2;generalize L.tns[t].jny=jl at *;generalize at_[t]=n at *;generalize hzz:List.all _ _=z;have HZ:=zh hzz;simp at hc1 hd0;clear hzz hl;go_enter Tryz.func142,Tryz.ntmps142
 go_wp2
 go_loopw [8] (fun i wr=>∃q:Nat,i=.int .i64 q/\n<=q/\(q=n\/q<=jl.length) ∧
   (∀q' (hq:q' < jl.length),n<=q'->q' < q->(List.range at_.length).all (fun o=>o==t||!hits (secs (L.rt jl[q']).path) (L.holds at_ o))=true) ∧
   Below (w.heap.size+1) (w.alloc (z1k L vh (.slice aor L.rts.length capr) (.slice (some ⟨g,off,none⟩) L.tns.length cap))) wr) (fun i _=>jl.length - (intOf i).toNat)
 case atStart=>exact⟨n,rfl,Nat.le_refl _,.inl rfl,fun q' _ h1 h2=>by omega,Below.refl _ _⟩
 case round=>
  obtain⟨q,rfl,hnq,hq,hz,hb⟩:=hrel;have HK:=zh hq;have HQ:=zh hz;have HB:=zh hb;obtain⟨q0,q1,q2,q3,q4,q5,qs⟩:=z1u hb;clear hz hq;by_cases hlt:q < jl.length
  ·obtain⟨gj,offj,hao,hgj,cs3,-,hC3,he⟩:=j3 q hlt
   subst hao;unfold CInt at hC3;subst hC3;have he0:=he 0 (by omega);rw[<-(z09 hb).cell (p:=⟨gj,_,none⟩) hgj] at he0;have hjr:=hjn _ (List.getElem_mem hlt);obtain⟨gr,offr,hao,hgr,cs4,-,hC4,hf⟩:=r3 _ hjr;subst hao;obtain⟨vp,vs,vf,vl,rfl,hPt,-,-,-⟩:=hC4;have hf1:=hf 1 (by omega);rw[<-(z09 hb).cell (p:=⟨gr,_,none⟩) hgr] at hf1;have HPT:=zh (show Ints w vp _ from hPt);obtain⟨aop,capp,rfl,p1,p2,-⟩:=SlAt.open hPt;have HRT:=zh (rt_eq L _ hjr);clear hPt hf he j3 r3 hb;simp at he0 hf1;generalize hrr:jl[q]=r at *;have HRR:=zh hrr;clear hrr;go_wp2
   go_quiet (fail)
   go_wp2
   go_loopw [10] (fun i wr=>∃o:Nat,i=.int .i64 o/\o<=at_.length ∧
     (∀o',o' < o->(o'==t||!hits (secs (L.rt r).path) (L.holds at_ o'))=true) ∧
     Below (w.heap.size+1) (w.alloc (z1k L vh (.slice (some ⟨gr,offr,none⟩) L.rts.length capr) (.slice (some ⟨g,off,none⟩) L.tns.length cap))) wr) (fun i _=>at_.length - (intOf i).toNat)
   case atStart=>exact⟨0,rfl,Nat.zero_le _,fun o' h=>by omega,below_drewN (uh HB) _⟩
   case round=>
    clear q0 q1 q2 q3 q4 q5 qs he0 hf1 HB;obtain⟨o,rfl,ho,hz,hb⟩:=hrel;have HO:=zh hz;have HB:=zh hb;obtain⟨q0,q1,q2,q3,q4,q5,qs⟩:=z1u hb;clear hz hb;by_cases hol:o < at_.length
    ·have HT:=zh (times_hits (secs L.rts[r].path) (L.holds at_ o))
     rw[<-uh HRT] at HT;by_cases hot:o=t
     ·have hot':((o:Int) != (t:Int))=false:=by simp; omega
      have HOT:=zh hot;clear hot;go_wp2_with (first
       | (go_at_call 170; refine(holds_any _ _ L at_ o _ ((uh HR).below (z09 (uh HB))) ((uh HA).below (z09 (uh HB))) hol (uh HL) (uh HP) (uh HJ)).mono ?_; rintro e w' ⟨rfl,hb'⟩)
       | (go_at_call 138; refine(z12 _ _ _ _ ((uh HPT).below ((z09 (uh HB)).trans (hb'.mono (Nat.le_of_lt qs))))).mono ?_; rintro e w' ⟨rfl,rfl⟩))
      have hb4:=(uh HB).trans (hb'.mono (B':=w.heap.size+1) qs);refine⟨⟨o+1,by go_num,by omega,fun o' h=>?_,hb4⟩,by simp[intOf]; omega⟩;rcases Nat.lt_or_ge o' o with h' | h'
      ·exact uh HO o' h'
      ·obtain rfl:o'=t:=by have:=uh HOT; omega
       simp
     ·have hot':((o:Int) != (t:Int))=true:=by simp; omega
      have HOT:=zh hot;clear hot;go_wp2_with (first
       | (go_at_call 170; refine(holds_any _ _ L at_ o _ ((uh HR).below (z09 (uh HB))) ((uh HA).below (z09 (uh HB))) hol (uh HL) (uh HP) (uh HJ)).mono ?_; rintro e w' ⟨rfl,hb'⟩)
       | (go_at_call 138; refine(z12 _ _ _ _ ((uh HPT).below ((z09 (uh HB)).trans (hb'.mono (Nat.le_of_lt qs))))).mono ?_; rintro e w' ⟨rfl,rfl⟩))
      ·have hti:0 < z26 (secs L.rts[r].path) (optZ (L.holds at_ o)):=by assumption
       have hs:=zh (show z=false by
        rw[<-uh HZ];refine all_drop_false _ _ _ q hlt hnq ?_;refine all_range_false _ _ o hol ?_;rw[uh HRR,<-uh HT,uh HRT];simp[uh HOT,hti])
       have hb3:=z09 ((uh HB).trans (hb'.mono (B':=w.heap.size+1) qs));go_ret
       exact⟨z04 (uh hs).symm,hb3⟩
      ·have hti:z26 (secs L.rts[r].path) (optZ (L.holds at_ o))<=0:=by assumption
       have hb4:=(uh HB).trans (hb'.mono (B':=w.heap.size+1) qs);refine⟨⟨o+1,by go_num,by omega,fun o' h=>?_,hb4⟩,by simp[intOf]; omega⟩;rcases Nat.lt_or_ge o' o with h' | h'
       ·exact uh HO o' h'
       ·obtain rfl:o'=o:=by omega
        rw[<-uh HT,uh HRT];simp; omega
    ·go_wp2
     have hb4:=uh HB;refine⟨⟨q+1,by go_num,by omega,.inr (by omega),fun q' hq' h1' h2'=>?_,hb4⟩,by simp[intOf]; omega⟩;rcases Nat.lt_or_ge q' q with h' | h'
     ·exact uh HQ q' hq' h1' h'
     ·obtain rfl:q'=q:=by omega
      rw[uh HRR];exact all_range_true _ _ (fun o' ho'=>uh HO o' (by omega))
  ·have hs:=zh (show z=true by
    rw[<-uh HZ];exact all_drop_true _ _ _ (fun q' hq' hn=>uh HQ q' hq' hn (by omega)))
   have hb3:=z09 (uh HB);go_wp2
   go_ret
   exact⟨z04 (uh hs).symm,hb3⟩
theorem swT_snoc (f:Nat->List Nat) (k:Nat):(List.range (k+1)).flatMap f=(List.range k).flatMap f++f k:=by
 rw[List.range_succ,List.flatMap_append]; simp
theorem z2c (a b:List Nat):z0i (a++b)=z0i a++z0i b:=by
 apply ByteArray.ext;simp[z0i]
theorem flat_le (f:Nat->List Nat) (h:∀s,(f s).length<=1) (k:Nat):((List.range k).flatMap f).length<=k:=by
 induction k with
 | zero=>simp
 | succ k ih=>rw[swT_snoc]; have:=h k; simp only[List.length_append]; omega
theorem contains_drop (P:List Nat) (n s:Nat):(P.drop n).contains s=true↔∃j,∃h:j < P.length,n<=j/\P[j]=s:=by
 rw[List.contains_iff_mem,List.mem_iff_getElem];constructor
 ·rintro⟨i,hi,he⟩
  rw[List.length_drop] at hi;rw[List.getElem_drop] at he;exact⟨n+i,by omega,by omega,he⟩
 ·rintro⟨j,hj,hn,he⟩
  refine⟨j - n,by rw[List.length_drop]; omega,?_⟩;rw[List.getElem_drop];simp only[show n+(j - n)=j by omega];exact he
theorem rfind_none (p:Nat->Bool) (n:Nat) (h:∀k,k < n->p k=false):(List.range n).find? p=none:=by
 rw[List.find?_eq_none]; intro x hx; rw[h x (List.mem_range.1 hx)]; simp
theorem rfind_some (p:Nat->Bool) (n k:Nat) (hk:k < n) (h:∀j,j < k->p j=false) (hp:p k=true):(List.range n).find? p=some k:=by
 rw[List.find?_eq_some_iff_append];refine⟨hp,List.range k,(List.range (n - k - 1)).map (·+(k+1)),?_,?_⟩
 ·have e:n=k+(1+(n - k - 1)):=by omega
  conv=>lhs; rw[e]
  rw[List.range_add,List.range_add];simp[List.range_one,Nat.add_comm,Nat.add_left_comm,Function.comp_def]
 ·intro x hx; rw[h x (List.mem_range.1 hx)]; rfl
def z1l (l:List (Nat×Nat)) (s:Nat):Option Nat:=(l.find? (fun x=>x.1==s)).map (·.2)
def Lay.wantsF (L:Lay) (r s:Nat):Nat:=match z1l (L.rt r).path s with
 | some x=>x
 | none=>(z1l (L.rt r).flank s).getD 0
def RBx.flankB (C:RBx) (s r:Nat):Bool:=(C.line r).ph != 46&&has (C.L.rt r).flank s
def RBx.heldB (C:RBx) (s:Nat):Bool:=(C.lockedBy s).isSome||(List.range C.lines.length).any (C.flankB s)
structure Fr where
 occ:List Bool
 rep:List Nat
 cmds:ByteArray
def busyF (p:List Nat) (f:Fr):Bool:=p.any (fun s=>f.occ.getD s false)
theorem z1f {α:Type} (l:List α) (k:Nat) (d:α) (h:k < l.length):l.getD k d=l[k]:=by
 rw[List.getD_eq_getElem?_getD,List.getElem?_eq_getElem h]; rfl
def RBx.setB (C:RBx) (t r:Nat):Bool:=(C.line r).ph != 46&&(C.line r).train==t
def RBx.isSet (C:RBx) (t:Nat):Bool:=(List.range C.lines.length).any (C.setB t)
def RBx.brokenB (C:RBx) (r s:Nat):Bool:=C.L.wantsF r s != 0&&C.failed.getD s false
def RBx.broken (C:RBx) (r:Nat):Bool:=(List.range C.L.sw.length).any (C.brokenB r)
end Go.Proofs.YtkbpocecbcaiiabGreatDoor
