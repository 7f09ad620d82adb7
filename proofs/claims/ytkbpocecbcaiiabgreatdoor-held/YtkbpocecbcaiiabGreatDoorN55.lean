import Derived.Test.YtkbpocecbcaiiabGreatDoorN54
namespace Go.Proofs.YtkbpocecbcaiiabGreatDoor
open Go.RowKit
def Row (w : World) (gl np : Nat) (l : List Nat) : Prop := w.ownsRow 0 3 1 (.slice (some ⟨gl, 0, none⟩) np np) np (intsV l)
theorem Row.only {w w' : World} {F : Nat -> Prop} {gl np : Nat} {l : List Nat} (h : Row w gl np l) (ho : Only F w w') (hn : ¬ F gl) : Row w' gl np l :=
 own_onlyR h ho (fun b hb => by
  have e : gl = b := by simpa [Value.ownBlock] using hb
  subst e; exact hn)
theorem Row.below {w w' : World} {gl np : Nat} {l : List Nat} (h : Row w gl np l) (hb : Below w.heap.size w w') : Row w' gl np l := z3s h hb
theorem Row.lt {w : World} {gl np : Nat} {l : List Nat} (h : Row w gl np l) : gl < w.heap.size := (World.ownsRow.lt h gl rfl).2
theorem Row.cell {w : World} {gl np : Nat} {l : List Nat} (h : Row w gl np l) {k : Nat} (hk : k < np) (hl : l.length = np) : w.cell? ⟨gl, k, none⟩ = some (.int .i64 (l.getD k 0 : Nat)) := by
 rw [World.ownsRow.cellAt h k (by omega), z06 (by omega)]
 simp [intsV, show k < l.length by omega]
theorem Row.set {w : World} {gl np : Nat} {l : List Nat} (h : Row w gl np l) (k x : Nat) : Row (w.setCell ⟨gl, k, none⟩ (.int .i64 x)) gl np (l.set k x) := by
 have := (World.ownsRow.stored h k (.int .i64 x)).1
 rw [intsV_set] at this
 unfold Row
 simpa using this
theorem Row.frozen {w : World} {gl np : Nat} {l : List Nat} (h : Row w gl np l) (k : Nat) : w.frozen? ⟨gl, k, none⟩ = false := World.ownsRow.frozenAt h k
theorem only_gl (w : World) (gl j : Nat) (u : Value) : Only (fun b => b = gl) w (w.setCell ⟨gl, j, none⟩ u) := Only.setCell (F := fun b => b = gl) (a := ⟨gl, j, none⟩) rfl u
theorem KRun.onlyG {n : Nat} {w0 w w' : World} {D R : Nat -> Prop} {gb gp gl : Nat} {L : Lay} {C : RBx} (h : KRun n w0 w D R gb gp L C) (ho : Only (fun b => b = gl) w w') (hD : ¬ D gl) (hR : ¬ R gl) (hn : n <= gl) (hnw : n <= w0.heap.size) : KRun n w0 w' D R gb gp L C :=
 ⟨h.box.only ho (fun k hk e => hD (by have e' : k = gl := e; rw [<- e']; exact hk)), h.plan.only ho (fun k hk e => hR (by have e' : k = gl := e; rw [<- e']; exact hk)), h.ap, h.dn, h.eL, h.sg, h.wt,
  h.be.trans (ho.belowK (fun b hb => by have e' : b = gl := hb; rw [e']; exact hn) (h.nw hnw))⟩
def mixN (new old : List Nat) (k : Nat) : List Nat := new.take k ++ old.drop k
theorem mixN_len {new old : List Nat} (h : new.length = old.length) {k : Nat} (hk : k <= old.length) : (mixN new old k).length = old.length := by
 unfold mixN
 rw [List.length_append, List.length_take, List.length_drop]
 omega
theorem mixN_get {new old : List Nat} (h : new.length = old.length) {k : Nat} (hk : k < old.length) : (mixN new old k).getD k 0 = old.getD k 0 := by
 have hl := mixN_len h (k := k) (by omega)
 rw [z06 (by omega), z06 hk]
 unfold mixN
 rw [List.getElem_append_right (by rw [List.length_take]; omega)]
 simp [List.length_take, show min k new.length = k by omega]
theorem mixN_set {new old : List Nat} (h : new.length = old.length) {k : Nat} (hk : k < old.length) : (mixN new old k).set k (new.getD k 0) = mixN new old (k + 1) := by
 unfold mixN
 have h1 : (new.take k).length = k := by rw [List.length_take]; omega
 rw [List.set_append_right _ _ (by omega), h1, Nat.sub_self, z06 (by omega), List.take_succ_eq_append_getElem (by omega), List.append_assoc, List.drop_eq_getElem_cons hk]
 rfl
theorem mixN_end {new old : List Nat} (h : new.length = old.length) : mixN new old old.length = new := by
 unfold mixN
 rw [List.drop_length, List.append_nil, <- h, List.take_length]
end Go.Proofs.YtkbpocecbcaiiabGreatDoor
