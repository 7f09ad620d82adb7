import Derived.Test.YtkbpocecbcaiiabGreatDoorO43
namespace Go.Proofs.YtkbpocecbcaiiabGreatDoor
open Go.RowKit
def RBx.nxt (C : RBx) (t : Nat) : Nat := (C.L.tn t).jny.getD (C.sta.getD t 0) 0
def RBx.more (C : RBx) (t : Nat) : List Nat := C.sta.set t (C.sta.getD t 0 + 1)
def RBx.grantB (C : RBx) (f : Fr) (t : Nat) : Bool := !C.isSet t && C.free f (C.nxt t) && C.L.sound (C.more t)
def RBx.wantK (C : RBx) (r k : Nat) : RBx := if C.L.wantsF r k = 0 then C else { C with wanted := C.wanted.set k (C.L.wantsF r k) }
def RBx.wantN (C : RBx) (r : Nat) : Nat -> RBx
 | 0 => C
 | k + 1 => (C.wantN r k).wantK r k
def RBx.given (C : RBx) (r t : Nat) : RBx := (({ C with sta := C.more t } : RBx).wantN r C.L.sw.length).put r (RLnW t)
def RBx.grant (C : RBx) (f : Fr) (t : Nat) : RBx := if C.grantB f t then C.given (C.nxt t) t else C
theorem rwantN_pres (C : RBx) (r k : Nat) : (C.wantN r k).L = C.L /\ (C.wantN r k).lines = C.lines /\ (C.wantN r k).sta = C.sta /\ (C.wantN r k).waits = C.waits /\ (C.wantN r k).wanted.length = C.wanted.length /\ (C.wantN r k).failed = C.failed /\ (C.wantN r k).late = C.late := by
 induction k with
 | zero => exact ⟨rfl, rfl, rfl, rfl, rfl, rfl, rfl⟩
 | succ k ih =>
  have h : ∀ (D : RBx), (D.wantK r k).L = D.L /\ (D.wantK r k).lines = D.lines /\ (D.wantK r k).sta = D.sta /\ (D.wantK r k).waits = D.waits /\ (D.wantK r k).wanted.length = D.wanted.length /\ (D.wantK r k).failed = D.failed /\ (D.wantK r k).late = D.late := by
   intro D; unfold RBx.wantK; split <;> simp
  obtain ⟨a, b, c, d, e, f, j⟩ := h (C.wantN r k)
  exact ⟨a.trans ih.1, b.trans ih.2.1, c.trans ih.2.2.1, d.trans ih.2.2.2.1, e.trans ih.2.2.2.2.1, f.trans ih.2.2.2.2.2.1, j.trans ih.2.2.2.2.2.2⟩
structure GrantOK (C : RBx) (f : Fr) (t : Nat) : Prop where
 pa : C.L.Paths
 jn : C.L.Jnys
 tn : C.L.tns.length <= 1000
 ll : C.lines.length = C.L.rts.length
 r1 : C.L.rts.length <= 1000
 sw : C.L.sw.length <= 1000
 occ : f.occ.length = C.L.sw.length
 fl : C.failed.length = C.L.sw.length
 wl : C.wanted.length = C.L.sw.length
 go : ∀ x, x ∈ C.lines -> x.gone <= 1000
 st : C.sta.length = C.L.tns.length
 ht : t < C.L.tns.length
 hj : C.sta.getD t 0 < (C.L.tn t).jny.length
 s9 : C.sta.getD t 0 <= 1000
end Go.Proofs.YtkbpocecbcaiiabGreatDoor
