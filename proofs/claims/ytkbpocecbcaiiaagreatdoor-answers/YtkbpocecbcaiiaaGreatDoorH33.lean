import Derived.Test.YtkbpocecbcaiiaaGreatDoorH32
namespace Go.Proofs.YtkbpocecbcaiiaaGreatDoor
open Go.RowKit
end Go.Proofs.YtkbpocecbcaiiaaGreatDoor
namespace Go.Proofs.YtkbpocecbcaiiaaGreatDoor
open Go.RowKit
def FormOK : Prop := ∀ l : List UInt8, l.length <= 256 -> placeS 0 0 l = -1 -> Form l
theorem err0 (l : List UInt8) (h : (errOf l).1 = 0) : l.length <= 256 /\ placeS 0 0 l = -1 /\ (layOf l).big = false /\ (∀ j, j < (layOf l).rts.length -> (layOf l).crooked ((layOf l).rt j) = false) /\ (∀ j, j < (layOf l).tns.length -> (layOf l).stray j = false) /\ (layOf l).sound (List.replicate (layOf l).tns.length 0) = true := by
  unfold errOf at h
  by_cases h1 : 256 < l.length
  · rw [if_pos h1] at h; cases h
  rw [if_neg h1] at h
  by_cases h2 : placeS 0 0 l = -1
  · rw [if_neg (by simp [h2])] at h
    cases h3 : (layOf l).big with
    | true => rw [h3] at h; cases h
    | false =>
      rw [h3, if_neg (by simp)] at h
      cases h4 : (List.range (layOf l).rts.length).find? (fun i => (layOf l).crooked ((layOf l).rt i)) with
      | some i => rw [h4] at h; cases h
      | none =>
        rw [h4] at h
        simp only at h
        cases h5 : (List.range (layOf l).tns.length).find? (fun i => (layOf l).stray i) with
        | some i => rw [h5] at h; cases h
        | none =>
          rw [h5] at h
          simp only at h
          cases h6 : (layOf l).sound (List.replicate (layOf l).tns.length 0) with
          | false => rw [h6] at h; cases h
          | true =>
            rw [List.find?_eq_none] at h4 h5
            refine ⟨by omega, h2, rfl, fun j hj => ?_, fun j hj => ?_, rfl⟩
            · simpa using h4 j (List.mem_range.2 hj)
            · simpa using h5 j (List.mem_range.2 hj)
  · rw [if_pos h2] at h; cases h
end Go.Proofs.YtkbpocecbcaiiaaGreatDoor
namespace Go.Proofs.YtkbpocecbcaiiaaGreatDoor
open Go.RowKit
set_option maxHeartbeats 1000000 in
theorem rLocks_any (g : Nat) (B : RBx) (w : World) (h : RBoxAt w g B) (hs : B.L.sw.length <= 1000) (hl : B.lines.length <= B.L.rts.length) (hr : B.L.rts.length <= 100) (hgo : ∀ x, x ∈ B.lines -> x.gone <= 1000) :
    Calls Tryz.prog 66 #[.pointer (some ⟨g, 0, none⟩)] w fun e w' => e = .returned (.string (natsStr B.locksT)) /\ Below w.heap.size w w' := by
  have HLB := hide (fun (s : Nat) (wz : World) (hz : Below w.heap.size w wz) => rlocked_any g B s wz (h.below hz) hl (by omega) hgo)
  have HR := hide (show ∀ s r, B.lockedBy s = some r -> r < 100 by
    intro s r he
    unfold RBx.lockedBy at he
    have := List.mem_range.1 (List.mem_of_find?_eq_some he)
    omega)
  obtain ⟨vh, vr, vt, vl, vw, vf, vd, va, vq, hB, hH, -⟩ := h
  obtain ⟨ao, cap, rfl, -, hm, -⟩ := SlAt.open hH
  obtain ⟨⟨q3, -⟩, -, qg⟩ := box12 hB
  unfold RBx.locksT
  generalize B.lockedBy = f at *
  generalize B.L.sw = l at *
  unfold maxLen at hm
  clear hH hB hgo hl hr
  have kc := Tryz.oneStr
  go_enter Tryz.func66, Tryz.ntmps66
  go_wp2
  go_loopw [3, 4] (fun d i wr => ∃ k : Nat, k <= l.length /\ i = .int .i64 k /\ d = .string (natsStr ((List.range k).map (fun s => lockC (f s)))) /\ Below w.heap.size w wr) (fun _ i _ => l.length - (intOf i).toNat)
  case atStart => exact ⟨0, Nat.zero_le _, rfl, rfl, Below.refl _ _⟩
  case round =>
    obtain ⟨k, hk, rfl, rfl, hb⟩ := hrel
    have hsz := natsStr_size ((List.range k).map (fun s => lockC (f s)))
    rw [List.length_map, List.length_range] at hsz
    obtain ⟨p, hp⟩ : ∃ p, p = natsStr ((List.range k).map (fun s => lockC (f s))) := ⟨_, rfl⟩
    rw [<- hp] at hsz ⊢
    have HP := hide hp
    rw [<- hb.cell (p := ⟨g, 3, none⟩) qg] at q3
    have HB := hide hb
    have hbs := hb.size
    clear hp hb
    by_cases hlt : k < l.length
    · have HS := hide (show natsStr ((List.range (k + 1)).map (fun s => lockC (f s))) = p ++ ⟨#[UInt8.ofNat (lockC (f k))]⟩ by
        rw [uh HP, List.range_succ, List.map_append, <- natsStr_snoc]; rfl)
      have HRK := hide (uh HR k)
      have HLK := hide (uh HLB k wr (uh HB))
      generalize f k = o at *
      clear HLB HR
      go_wp2_with fail
      refine (uh HLK).mono ?_
      rintro e w1 ⟨rfl, rfl⟩
      clear HLK
      cases o with
      | none =>
        simp only [optI]
        go_wp2
        exact ⟨⟨k + 1, by omega, by go_num, by first | (rw [uh HS]; done) | (rw [uh HS]; rfl), (uh HB).alloc hbs _⟩, by simp [intOf]; omega⟩
      | some r =>
        have hr1 := uh HRK r rfl
        have u1 := wrap8 (65 + (r : Int)) (by omega) (by omega)
        have u2 : (65 + (r : Int)).toNat = 65 + r := by omega
        simp only [optI]
        go_wp2
        exact ⟨⟨k + 1, by omega, by go_num, by first | (rw [uh HS]; done) | (rw [uh HS]; rfl) | (rw [uh HS]; simp [lockC]; done), (uh HB).alloc hbs _⟩, by simp [intOf]; omega⟩
    · obtain rfl : k = l.length := by omega
      clear HLB HR
      go_wp2
      go_ret
      exact ⟨by first | (rw [uh HP]; done) | (rw [<- uh HP]; rfl), uh HB⟩
def RBx.init (L : Lay) : RBx := ⟨L, List.replicate L.rts.length RLn0, L.sw.map (fun b => if b then 43 else 0), List.replicate L.sw.length false, List.replicate L.sw.length 0, List.replicate L.tns.length 0, []⟩
def lnCells : List Value := [.int .u8 46, .int .i64 0, .bool false, .slice none 0 0, .int .i64 0, .int .i64 0]
theorem Tryz.infoLine : (Tryz.prog.info? 161).map (fun i => (i.zero, i.size, i.bytes)) = some (some (.agg #[.int .u8 0, .int .i64 0, .bool false, .slice none 0 0, .int .i64 0, .int .i64 0]), 6, 64) := by kernel_rfl
def rbox (L : Lay) (vh vr vt vl vw vf vd : Value) : Obj := .cells #[.int .i64 L.T, .int .i64 L.D, .int .i64 L.Q, vh, vr, vt, vl, vw, vf, vd, .slice none 0 0, .slice none 0 0] 159
def NMid (w1 : World) (L : Lay) (vh vr vt : Value) (wr : World) (vl vw vf vd : Value) : Prop :=
  wr.heap[w1.heap.size]? = some (planBox L vh vr vt) /\ wr.heap[w1.heap.size + 1]? = some (rbox L vh vr vt vl vw vf vd) /\ Below w1.heap.size w1 wr
theorem NMid.append {w1 : World} {L : Lay} {vh vr vt vl vw vf vd v : Value} {wr w2 : World} {e : TypeId} {size n : Nat} {xs : List Value} {o : Obj} (h : NMid w1 L vh vr vt wr vl vw vf vd) (hown : wr.ownsRow (w1.heap.size + 2) e size v n xs)
    (hg : (wr.alloc o).grownBy w2 v.ownBlock) (h1 : e ≠ 130) (h2 : e ≠ 159) : NMid w1 L vh vr vt w2 vl vw vf vd :=
  ⟨(append_keeps hown hg h1 _ _ _ h.1).trans h.1, (append_keeps hown hg h2 _ _ _ h.2.1).trans h.2.1,
   (h.2.2.alloc h.2.2.size o).grown hg (by have := h.2.2.size; simp; omega) (fun k hk => by have := (hown.lt k hk).1; omega)⟩
theorem NMid.typed {w1 : World} {L : Lay} {vh vr vt vl vw vf vd : Value} {wr : World} (h : NMid w1 L vh vr vt wr vl vw vf vd) : Typed wr (w1.heap.size + 1) 159 := ⟨_, _, h.2.1⟩
theorem NMid.store {w1 : World} {L : Lay} {vh vr vt vl vw vf vd : Value} {wr : World} (h : NMid w1 L vh vr vt wr vl vw vf vd) (u : Value) :
    NMid w1 L vh vr vt (wr.setCell ⟨w1.heap.size + 1, 6, none⟩ u) u vw vf vd /\ NMid w1 L vh vr vt (wr.setCell ⟨w1.heap.size + 1, 7, none⟩ u) vl u vf vd ∧
    NMid w1 L vh vr vt (wr.setCell ⟨w1.heap.size + 1, 8, none⟩ u) vl vw u vd /\ NMid w1 L vh vr vt (wr.setCell ⟨w1.heap.size + 1, 9, none⟩ u) vl vw vf u := by
  have hz : ∀ j, (wr.setCell ⟨w1.heap.size + 1, j, none⟩ u).heap[w1.heap.size]? = some (planBox L vh vr vt) := fun j => by
    rw [Below.heap_setCell _ _ _ _ (by simp)]; exact h.1
  have hb : ∀ j, Below w1.heap.size w1 (wr.setCell ⟨w1.heap.size + 1, j, none⟩ u) := fun j => h.2.2.setCell (p := ⟨w1.heap.size + 1, j, none⟩) (by simp) u
  exact ⟨⟨hz 6, blk_setCell u h.2.1, hb 6⟩, ⟨hz 7, blk_setCell u h.2.1, hb 7⟩, ⟨hz 8, blk_setCell u h.2.1, hb 8⟩, ⟨hz 9, blk_setCell u h.2.1, hb 9⟩⟩
theorem intsV_rep (k x : Nat) : intsV (List.replicate (k + 1) x) = intsV (List.replicate k x) ++ [.int .i64 x] := by rw [List.replicate_succ', intsV_snoc]
theorem boolsV_rep (k : Nat) (x : Bool) : boolsV (List.replicate (k + 1) x) = boolsV (List.replicate k x) ++ [.bool x] := by rw [List.replicate_succ', boolsV_snoc]
theorem flat_rep (k : Nat) (c : List Value) : (List.replicate (k + 1) c).flatten = (List.replicate k c).flatten ++ c := by rw [List.replicate_succ', List.flatten_append]; simp
theorem all2_rep {α β : Type} {R : α -> β -> Prop} {a : α} {b : β} (h : R a b) : ∀ n, All2 R (List.replicate n a) (List.replicate n b)
  | 0 => trivial
  | n + 1 => ⟨h, all2_rep h n⟩
theorem ln0 (w : World) : CRLn w RLn0 lnCells := ⟨_, rfl, SlAt.nil _ _ _ _⟩
end Go.Proofs.YtkbpocecbcaiiaaGreatDoor
