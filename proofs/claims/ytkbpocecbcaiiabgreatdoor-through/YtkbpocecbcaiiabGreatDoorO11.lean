import Derived.Test.YtkbpocecbcaiiabGreatDoorO8
namespace Go.Proofs.YtkbpocecbcaiiabGreatDoor
open Go.RowKit
theorem z1w {P : Nat -> Prop} {w w' : World} {b : Nat} {e : TypeId} {sz : Nat} {v : Value} {n : Nat} {xs : List Value} (h : w.ownsRow b e sz v n xs) (hs : SameOn P w w') (hP : ∀ k, v.ownBlock = some k -> P k) : w'.ownsRow b e sz v n xs := by
 refine ⟨h.1, ?_⟩
 rcases h.2 with h2 | ⟨g, cap, cur, hv, hg, hh, r⟩
 ·exact .inl h2
 ·exact .inr ⟨g, cap, cur, hv, hg, (hs g (hP g (by rw [hv]; rfl))).trans hh, r⟩
end Go.Proofs.YtkbpocecbcaiiabGreatDoor
