import Derived.Test.YtkbpocecbcaiiabGreatDoorN54
namespace Go.Proofs.YtkbpocecbcaiiabGreatDoor
open Go.RowKit
theorem set_lock {C : RBx} (hi : Inv C) {r : Nat} (hr : r < C.L.rts.length) (h : (C.line r).ph ≠ 46) : ∃ x, x < C.L.sw.length /\ x ∈ secs (C.L.rt r).path /\ C.lockB x r = true := by
 have hro := hi.rt hr
 have hg : (C.line r).gone < (secs (C.L.rt r).path).length := by
  rw [z1d]
  by_cases e : (C.line r).ph = 116
  ·exact ((hi.li r hr).ps e).2
  ·rw [(hi.li r hr).g0 e]
   exact List.length_pos_iff.2 hro.ne
 have hm : (secs (C.L.rt r).path)[(C.line r).gone] ∈ (secs (C.L.rt r).path).drop (C.line r).gone := by
  rw [List.drop_eq_getElem_cons hg]; exact List.mem_cons_self ..
 refine ⟨(secs (C.L.rt r).path)[(C.line r).gone], ?_, List.getElem_mem hg, ?_⟩
 ·obtain ⟨y, hy, e⟩ := List.mem_map.1 (show (secs (C.L.rt r).path)[(C.line r).gone] ∈ (C.L.rt r).path.map (·.1) from List.getElem_mem hg)
  rw [<- e]; exact (hro.ps y hy).1
 ·unfold RBx.lockB
  simp only [Bool.and_eq_true, bne_iff_ne, ne_eq, List.contains_iff_mem]
  exact ⟨h, hm⟩
theorem grant_keeps {C : RBx} {q : List Nat} (hi : Inv { C with waits := q }) {f : Fr} {t r : Nat} (h : (C.line r).ph ≠ 46) : (C.grant f t).line r = C.line r := by
 rcases z3f C f t r with e | ⟨e, hb, -⟩
 ·exact e
 ·exfalso
  have hfree := z5g hb
  rw [<- e] at hfree
  have hll : C.lines.length = C.L.rts.length := hi.ll
  have hr : r < C.L.rts.length := by rw [<- hll]; exact z4w h
  obtain ⟨x, hx1, hx2, hx3⟩ := set_lock hi hr h
  have hno := locked_none (free_path hfree hx1 hx2).1 r
  have hyes : C.lockB x r = true := hx3
  rw [hyes] at hno
  cases hno
theorem grantN_keeps {C : RBx} {f : Fr} (hg : ∀ k, k <= C.waits.length -> Inv { C.grantN f k with waits := C.leftN f k ++ C.waits.drop k }) {r : Nat} (h : (C.line r).ph ≠ 46) : ∀ k, k <= C.waits.length -> (C.grantN f k).line r = C.line r
 | 0, _ => rfl
 | k + 1, hk => by
  have ih := grantN_keeps hg h k (by omega)
  show ((C.grantN f k).grant f (C.waits.getD k 0)).line r = _
  rw [grant_keeps (hg k (by omega)) (by rw [ih]; exact h), ih]
theorem s4_keeps {C : RBx} {f : Fr} (S : Stgs C f) {r : Nat} (h : ((C.s3 f).line r).ph ≠ 46) : (C.s4 f).line r = (C.s3 f).line r := grantN_keeps S.g h (C.s3 f).waits.length (Nat.le_refl _)
end Go.Proofs.YtkbpocecbcaiiabGreatDoor
