import Derived.Test.YtkbpocecbcaiiabGreatDoorO8
namespace Go.Proofs.YtkbpocecbcaiiabGreatDoor
open Go.RowKit
def RBx.lateF (C:RBx) (f:Fr) (s:Nat):Nat:=
 if C.L.sw.getD s false&&C.heldB s&&!C.failed.getD s false&&f.rep.getD s 0 != C.wanted.getD s 0 then C.late.getD s 0+1 else 0
def RBx.watch1 (C:RBx) (f:Fr) (s:Nat):RBx:=
 if C.lateF f s=C.L.T then { C with late:=(C.late.set s (C.lateF f s)).set s 0,failed:=C.failed.set s true } else { C with late:=C.late.set s (C.lateF f s) }
def RBx.watchN (C:RBx) (f:Fr):Nat->RBx
 | 0=>C
 | k+1=>(C.watchN f k).watch1 f k
def RBx.watch (C:RBx) (f:Fr):RBx:=C.watchN f C.L.sw.length
theorem watch1_pres (C:RBx) (f:Fr) (s:Nat):(C.watch1 f s).L=C.L/\(C.watch1 f s).lines=C.lines/\(C.watch1 f s).wanted=C.wanted/\(C.watch1 f s).sta=C.sta/\(C.watch1 f s).waits=C.waits ∧
  (C.watch1 f s).failed.length=C.failed.length/\(C.watch1 f s).late.length=C.late.length:=by
 unfold RBx.watch1;split <;> simp
theorem watchN_pres (C:RBx) (f:Fr) (k:Nat):(C.watchN f k).L=C.L/\(C.watchN f k).lines=C.lines/\(C.watchN f k).wanted=C.wanted/\(C.watchN f k).sta=C.sta/\(C.watchN f k).waits=C.waits ∧
  (C.watchN f k).failed.length=C.failed.length/\(C.watchN f k).late.length=C.late.length:=by
 induction k with
 | zero=>exact⟨rfl,rfl,rfl,rfl,rfl,rfl,rfl⟩
 | succ k ih=>
  have h:=watch1_pres (C.watchN f k) f k;exact⟨h.1.trans ih.1,h.2.1.trans ih.2.1,h.2.2.1.trans ih.2.2.1,h.2.2.2.1.trans ih.2.2.2.1,h.2.2.2.2.1.trans ih.2.2.2.2.1,h.2.2.2.2.2.1.trans ih.2.2.2.2.2.1,h.2.2.2.2.2.2.trans ih.2.2.2.2.2.2⟩
theorem z2w {w:World} {b:Nat} {e:TypeId} {sz:Nat} {v:Value} {n:Nat} {xs:List Value} (h:w.ownsRow b e sz v n xs) (hn:0 < n):∃g cap,v=.slice (some ⟨g,0,none⟩) n cap/\n<=cap/\cap<=maxLen/\g < w.heap.size:=by
 rcases h.2 with ⟨-,h0⟩ | ⟨g,cap,cur,hv,hg,hh,h1,h2,-⟩
 ·omega
 ·exact⟨g,cap,hv,h1,h2,z0g hh⟩
theorem z1i {F:Nat->Prop} {a w:World} (h:Only F a w) (n:Nat):Only F a (w.drewN n):=h.trans (Only.of_below (below_drewN (Below.refl _ _) n))
end Go.Proofs.YtkbpocecbcaiiabGreatDoor
