import Derived.Test.YtkbpocecbcaiiabGreatDoorO39
namespace Go.Proofs.YtkbpocecbcaiiabGreatDoor
open Go.RowKit
def FormOK : Prop := ∀ l : List UInt8, l.length <= 256 -> z1m 0 0 l = -1 -> Form l
set_option maxHeartbeats 400000 in
theorem rCheck_any (s : ByteArray) (w : World) (hF : FormOK) :
  Calls Tryz.prog 29 #[.string s] w fun e w' => e = .returned (.tuple #[.int .i64 (errOf s.data.toList).1, .int .i64 (errOf s.data.toList).2]) /\ Below w.heap.size w w' := by
 have H := zh (Read_any s w (fun h => hF _ (by simpa using h)))
 generalize errOf s.data.toList = E at *
 go_enter Tryz.func29, Tryz.ntmps29
 go_wp2_with fail
 refine (uh H).mono ?_
 rintro e w1 ⟨v, rfl, ⟨T, D, Q, a1, a2, a3, n1, n2, n3, d1, d2, d3, rfl⟩, -, hb⟩
 go_wp2
 go_ret2
 exact ⟨rfl, hb.trans ((z01 _ _).mono hb.size)⟩
theorem err0 (l : List UInt8) (h : (errOf l).1 = 0) : l.length <= 256 /\ z1m 0 0 l = -1 /\ (layOf l).big = false /\ (∀ j, j < (layOf l).rts.length -> (layOf l).crooked ((layOf l).rt j) = false) /\ (∀ j, j < (layOf l).tns.length -> (layOf l).stray j = false) /\ (layOf l).sound (List.replicate (layOf l).tns.length 0) = true := by
 unfold errOf at h
 by_cases h1 : 256 < l.length
 ·rw [if_pos h1] at h; cases h
 rw [if_neg h1] at h
 by_cases h2 : z1m 0 0 l = -1
 ·rw [if_neg (by simp [h2])] at h
  cases h3 : (layOf l).big with
  | true => rw [h3] at h; cases h
  | false =>
   rw [h3, if_neg (by simp)] at h
   cases h4 : (List.range (layOf l).rts.length).find? (fun i => (layOf l).crooked ((layOf l).rt i)) with
   | some i => rw [h4] at h; cases h
   | none =>
    rw [h4] at h
    simp only at h
    cases h5 : (List.range (layOf l).tns.length).find? (fun i => (layOf l).stray i) with
    | some i => rw [h5] at h; cases h
    | none =>
     rw [h5] at h
     simp only at h
     cases h6 : (layOf l).sound (List.replicate (layOf l).tns.length 0) with
     | false => rw [h6] at h; cases h
     | true =>
      rw [List.find?_eq_none] at h4 h5
      refine ⟨by omega, h2, rfl, fun j hj => ?_, fun j hj => ?_, rfl⟩
      ·simpa using h4 j (List.mem_range.2 hj)
      ·simpa using h5 j (List.mem_range.2 hj)
 ·rw [if_pos h2] at h; cases h
def RBx.init (L : Lay) : RBx := ⟨L, List.replicate L.rts.length RLn0, L.sw.map (fun b => if b then 43 else 0), List.replicate L.sw.length false, List.replicate L.sw.length 0, List.replicate L.tns.length 0, []⟩
end Go.Proofs.YtkbpocecbcaiiabGreatDoor
