import Derived.Test.YtkbpocecbcaiiabGreatDoorN1
namespace Go.Proofs.YtkbpocecbcaiiabGreatDoor
theorem toList_loop (s : ByteArray) : ∀ (n i : Nat) (r : List UInt8), s.size - i = n -> (ByteArray.toList.loop s i r).length = r.length + n
 | 0, i, r, h => by
  unfold ByteArray.toList.loop
  rw [if_neg (by omega), List.length_reverse]
  rfl
 | n + 1, i, r, h => by
  unfold ByteArray.toList.loop
  rw [if_pos (by omega), toList_loop s n (i + 1) _ (by omega), List.length_cons]
  omega
theorem toList_ne {s : ByteArray} (h : s.size ≠ 0) : ¬ s.toList = [] := by
 intro e
 have := toList_loop s s.size 0 [] (by omega)
 have e2 : ByteArray.toList.loop s 0 [] = [] := e
 rw [e2] at this
 simp at this
 omega
end Go.Proofs.YtkbpocecbcaiiabGreatDoor
