import Derived.Test.YtkbpocecbcaiiaaGreatDoorG24
import Derived.Test.YtkbpocecbcaiiaaGreatDoorG23
import Derived.Test.YtkbpocecbcaiiaaGreatDoorG11
import Derived.Deep.DeepCutAuto
/-
  THE WALK OVER rails.New, from what load gives.
-/
namespace Go.Proofs.YtkbpocecbcaiiaaGreatDoor
open Go.RowKit

def PBx.init (L : Lay) : PBx := ⟨L, L.rts.map PRt.new, List.replicate L.sw.length PSw.new, List.replicate L.tns.length 0, []⟩

def pbox (L : Lay) (vs vr vt vl vw vg : Value) : Obj := .cells #[.int .i64 L.T, .int .i64 L.D, .int .i64 L.Q, vs, vr, vt, vl, vw, vg, .slice none 0 0] 87
/-- midway: the layout's block, the box's block. -/
def PMid (w1 : World) (gb : Nat) (L : Lay) (vs vr vt vg : Value) (wr : World) (vl vw : Value) : Prop :=
  wr.heap[w1.heap.size]? = some (layBox L vs vr vt) ∧ wr.heap[gb]? = some (pbox L vs vr vt vl vw vg) ∧ Below w1.heap.size w1 wr ∧ wr.ownsRow w1.heap.size 3 1 vg L.tns.length (intsV (List.replicate L.tns.length 0))
theorem PMid.append {w1 : World} {gb B : Nat} {L : Lay} {vs vr vt vg vl vw v : Value} {wr w2 : World} {e : TypeId} {size n : Nat} {xs : List Value} {o : Obj} (h : PMid w1 gb L vs vr vt vg wr vl vw) (hown : wr.ownsRow B e size v n xs)
    (hB : w1.heap.size ≤ B) (hg : (wr.alloc o).grownBy w2 v.ownBlock) (h1 : e ≠ 83) (h2 : e ≠ 87) (h3 : e ≠ 3) : PMid w1 gb L vs vr vt vg w2 vl vw :=
  ⟨(append_keeps hown hg h1 _ _ _ h.1).trans h.1, (append_keeps hown hg h2 _ _ _ h.2.1).trans h.2.1,
   (h.2.2.1.alloc h.2.2.1.size o).grown hg (by have := h.2.2.1.size; simp; omega) (fun k hk => by have := (hown.lt k hk).1; omega), ownsRow_keep h.2.2.2 (append_keeps hown hg h3)⟩
theorem PMid.below {w1 : World} {gb : Nat} {L : Lay} {vs vr vt vg vl vw : Value} {wr w2 : World} (h : PMid w1 gb L vs vr vt vg wr vl vw) (hb : Below wr.heap.size wr w2) : PMid w1 gb L vs vr vt vg w2 vl vw :=
  ⟨(hb.block _ (blk_lt h.1)).trans h.1, (hb.block _ (blk_lt h.2.1)).trans h.2.1, h.2.2.1.trans (hb.mono h.2.2.1.size), own_below h.2.2.2 hb⟩
theorem PMid.typed {w1 : World} {gb : Nat} {L : Lay} {vs vr vt vg vl vw : Value} {wr : World} (h : PMid w1 gb L vs vr vt vg wr vl vw) : Typed wr gb 87 := ⟨_, _, h.2.1⟩
theorem PMid.store {w1 : World} {gb : Nat} {L : Lay} {vs vr vt vg vl vw : Value} {wr : World} (h : PMid w1 gb L vs vr vt vg wr vl vw) (hgb : w1.heap.size < gb) (u : Value) :
    PMid w1 gb L vs vr vt vg (wr.setCell ⟨gb, 6, none⟩ u) u vw ∧ PMid w1 gb L vs vr vt vg (wr.setCell ⟨gb, 7, none⟩ u) vl u := by
  have hz : ∀ j, (wr.setCell ⟨gb, j, none⟩ u).heap[w1.heap.size]? = some (layBox L vs vr vt) := fun j => by
    rw [Below.heap_setCell _ _ _ _ (by simp; omega)]; exact h.1
  have hb : ∀ j, Below w1.heap.size w1 (wr.setCell ⟨gb, j, none⟩ u) := fun j => h.2.2.1.setCell (p := ⟨gb, j, none⟩) (by simp; omega) u
  have hi : ∀ j, (wr.setCell ⟨gb, j, none⟩ u).ownsRow w1.heap.size 3 1 vg L.tns.length (intsV (List.replicate L.tns.length 0)) := fun j => ownsRow_keep h.2.2.2 (Keeps.setCell ⟨gb, j, none⟩ u h.typed (by decide))
  exact ⟨⟨hz 6, blk_setCell u h.2.1, hb 6, hi 6⟩, ⟨hz 7, blk_setCell u h.2.1, hb 7, hi 7⟩⟩
theorem Tryz.infoRs : (Tryz.prog.info? 126).map (fun i => (i.zero, i.size, i.bytes)) = some (some (.agg #[.int .i64 0, .slice none 0 0, .slice none 0 0, .int .u8 0, .int .i64 0, .bool false, .int .i64 0, .slice none 0 0, .int .i64 0]), 9, 120) := by kernel_rfl
theorem Tryz.infoSs : (Tryz.prog.info? 121).map (fun i => (i.zero, i.size, i.bytes)) = some (some (.agg #[.int .u8 0, .int .i64 0, .bool false]), 3, 24) := by kernel_rfl
theorem swRep (k : Nat) : ((List.replicate (k + 1) PSw.new).map swV).flatten = ((List.replicate k PSw.new).map swV).flatten ++ [.int .u8 43, .int .i64 0, .bool false] := by
  rw [List.replicate_succ', List.map_append, List.flatten_append]; rfl
theorem prtsV_snoc (l : List PRt) (qs : List Q3) (h : qs.length = l.length) (x : PRt) (q : Q3) : prtsV (l ++ [x]) (qs ++ [q]) = prtsV l qs ++ [prtV x q] := by
  unfold prtsV
  rw [List.zipWith_append h.symm]; rfl
/-- what the walk knows of the routes' slices. -/
def ItOf (R : Nat → Prop) (w1 : World) (l : List Rt) (qs : List Q3) : Prop := ∀ i (h : i < l.length) (h' : i < qs.length), qs[i].2.2 = .slice none 0 0 ∧ ∀ w', SameOn R w1 w' → Items w' qs[i].1 l[i].path ∧ Items w' qs[i].2.1 l[i].flank
theorem ItOf.snoc {R : Nat → Prop} {w1 : World} {l : List Rt} {qs : List Q3} (hl : qs.length = l.length) (h : ItOf R w1 l qs) {x : Rt} {q : Q3} (hq : q.2.2 = .slice none 0 0) (hx : ∀ w', SameOn R w1 w' → Items w' q.1 x.path ∧ Items w' q.2.1 x.flank) : ItOf R w1 (l ++ [x]) (qs ++ [q]) := by
  intro i a b
  by_cases hi : i < l.length
  · have h1 : (l ++ [x])[i] = l[i] := List.getElem_append_left hi
    have h2 : (qs ++ [q])[i] = qs[i]'(by omega) := List.getElem_append_left (by omega)
    rw [h1, h2]; exact h i hi (by omega)
  · have : i = l.length := by simp at a; omega
    subst this
    have h1 : (l ++ [x])[l.length] = x := by simp
    have h2 : (qs ++ [q])[l.length] = q := by simp [← hl]
    rw [h1, h2]; exact ⟨hq, hx⟩
theorem PMid.fin {R : Nat → Prop} {w1 wr : World} {gb B n : Nat} {L : Lay} {vs vr vt vg vl vw : Value} {qs : List Q3} (hM : PMid w1 gb L vs vr vt vg wr vl vw) (hB : w1.heap.size ≤ B) (hn : n ≤ w1.heap.size) (hgb : w1.heap.size < gb)
    (hL : LayIn R w1 (.agg #[.int .i64 L.T, .int .i64 L.D, .int .i64 L.Q, vs, vr, vt]) L) (hR : ∀ k, R k → n ≤ k)
    (hw : wr.ownsRow B 121 3 vw L.sw.length ((List.replicate L.sw.length PSw.new).map swV).flatten)
    (hl : wr.ownsRow B 126 9 vl L.rts.length (prtsV (L.rts.map PRt.new) qs).flatten) (hq : qs.length = L.rts.length) (hI : ItOf R w1 L.rts qs) :
    PBoxIn wr (fun b => n ≤ b ∧ b < wr.heap.size) gb (PBx.init L) := by
  have hsR : SameOn R w1 wr := fun k hk => hM.2.2.1.block k (hL.1 k hk)
  have hz := hM.2.2.1.size
  have hqn : ∀ q, q ∈ qs → q.2.2 = .slice none 0 0 := fun q h => by
    obtain ⟨i, hi, rfl⟩ := List.getElem_of_mem h
    exact (hI i (by omega) hi).1
  have ho : ∀ b, (b = gb ∨ vl.ownBlock = some b ∨ vw.ownBlock = some b ∨ vg.ownBlock = some b ∨ (Value.slice none 0 0).ownBlock = some b ∨ ∃ q, q ∈ qs ∧ q.2.2.ownBlock = some b) → w1.heap.size ≤ b ∧ b < wr.heap.size := by
    rintro b (rfl | h | h | h | h | ⟨q, hq, h⟩)
    · exact ⟨by omega, blk_lt hM.2.1⟩
    · have := hl.lt b h; omega
    · have := hw.lt b h; omega
    · have := hM.2.2.2.lt b h; omega
    · cases h
    · rw [hqn q hq] at h; cases h
  refine ⟨R, vs, vr, vt, vl, vw, vg, .slice none 0 0, qs, ?_, fun b hb => ⟨hR b hb, Nat.lt_of_lt_of_le (hL.1 b hb) hz⟩, fun b hb => hb.2, fun b hb => ⟨by have := (ho b hb).1; omega, (ho b hb).2⟩⟩
  refine ⟨hM.2.1, hL.same hsR hz, ?_, ?_, ?_, ?_, ?_, ?_, World.ownsRow_nil _ _ _ _, ?_, ?_, ?_⟩
  · intro w' hs i a b
    have a' : i < L.rts.length := by simpa [PBx.init] using a
    have := (hI i a' b).2 w' (hsR.trans hs)
    simpa [PBx.init, PRt.new] using this
  · have := own_base hl (Nat.zero_le _)
    simpa [PBx.init] using this
  · simpa [PBx.init] using hq
  · intro i a b
    have := (hI i (by omega) a).1
    rw [this]
    simp only [PBx.init, List.getElem_map, PRt.new]
    exact World.ownsRow_nil _ _ _ _
  · have := own_base hw (Nat.zero_le _)
    simpa [PBx.init] using this
  · have := own_base hM.2.2.2 (Nat.zero_le _)
    simpa [PBx.init] using this
  · intro i j hi hj _ b hb
    rw [hqn _ (List.getElem_mem hi)] at hb; cases hb
  · intro b _ h; cases h
  · intro b hb hRb
    have := (ho b hb).1
    have := hL.1 b hRb
    omega

theorem own_made (w : World) (base n : Nat) (hb : base ≤ w.heap.size) (hn : n ≤ maxLen) : (w.alloc (.cells (madeCells #[.int .i64 0] n) 3)).ownsRow base 3 1 (.slice (some ⟨w.heap.size, 0, none⟩) n n) n (intsV (List.replicate n 0)) := by
  refine ⟨by simp [intsV], .inr ⟨w.heap.size, n, _, rfl, hb, heap_alloc_new w _, Nat.le_refl _, hn, ?_, ?_⟩⟩
  · have := congrArg List.length (toList_madeCells_one (.int .i64 0) n)
    simpa using this
  · rw [toList_madeCells_one]; simp [intsV]
set_option maxHeartbeats 400000 in
theorem AtFirst_own (v : Value) (L : Lay) (w : World) (h : CLay w v L) (hl : L.tns.length ≤ 1000) :
    Calls Tryz.prog 72 #[v] w fun e w' => ∃ a n c, e = .returned (.slice a n c) ∧ w'.ownsRow w.heap.size 3 1 (.slice a n c) L.tns.length (intsV (List.replicate L.tns.length 0)) ∧ Below w.heap.size w w' := by
  obtain ⟨vs, vr, vt, rfl, -, -, hT⟩ := h
  obtain ⟨at_, ct, rfl, -, -, -⟩ := SlAt.open hT
  clear hT
  obtain ⟨i0, hi0⟩ := info_parts Tryz.infoInt
  have hmk := fun (wz : World) => run_make (P := Tryz.prog) wz 50 3 i0 (.int .i64 0) Tryz.underlying50 hi0.1 hi0.2.1 .i64 .i64 (L.tns.length : Int) (L.tns.length : Int) (by omega) (by omega) (by rw [hi0.2.2.2]; omega) (by omega)
  rw [hi0.2.2.1] at hmk
  simp only [Int.toNat_natCast, Nat.mul_one] at hmk
  have hI := hide (fun (wz : World) (hz : w.heap.size ≤ wz.heap.size) => own_made wz w.heap.size L.tns.length hz (by unfold maxLen; omega))
  clear hi0
  go_enter Tryz.func72, Tryz.ntmps72
  go_wp2
  go_ret
  refine ⟨_, _, _, rfl, ?_, two_below (o1 := layBox L vs vr (.slice at_ L.tns.length ct)) (Below.refl _ _)⟩
  have := unhide hI (w.alloc (layBox L vs vr (.slice at_ L.tns.length ct))) (by simp)
  simpa [layBox] using this


set_option maxHeartbeats 4000000 in
theorem pNew_of (s : ByteArray) (F : Nat × Nat) (L : Lay) (n : Nat) (w : World) (hnw : n ≤ w.heap.size)
    (hload : Calls Tryz.prog 71 #[.string s] w fun e w' => ∃ v, e = .returned (.tuple #[v, .int .i64 F.1, .int .i64 F.2]) ∧ LShape v ∧ (F.1 = 0 → ∃ R, LayIn R w' v L ∧ ∀ k, R k → n ≤ k) ∧ Below w.heap.size w w')
    (hsm : F.1 = 0 → L.sw.length ≤ 16 ∧ L.rts.length ≤ 12 ∧ L.tns.length ≤ 5) :
    Calls Tryz.prog 33 #[.string s] w fun e w' =>
      ((F.1 ≠ 0 ∧ e = .returned (.tuple #[.pointer none, .int .i64 F.1])) ∨
       (F.1 = 0 ∧ ∃ g, e = .returned (.tuple #[.pointer (some ⟨g, 0, none⟩), .int .i64 0]) ∧ w.heap.size ≤ g ∧ PBoxIn w' (fun b => n ≤ b ∧ b < w'.heap.size) g (PBx.init L))) ∧ Below w.heap.size w w' := by
  have HLD := hide hload
  have HSM := hide hsm
  clear hload hsm
  go_enter Tryz.func33, Tryz.ntmps33
  go_wp2_with fail
  refine (unhide HLD).mono ?_
  rintro e w1 ⟨v, rfl, ⟨T, D, Q, a1, a2, a3, n1, n2, n3, d1, d2, d3, rfl⟩, hL, hb⟩
  have HB := hide hb
  have hbs := hb.size
  by_cases h0 : F.1 = 0
  · have hz : ((F.1 : Int) != 0) = false := by simp [h0]
    obtain ⟨hs1, hs2, hs3⟩ := unhide HSM h0
    obtain ⟨R, hLI, hRn⟩ := hL h0
    obtain ⟨vh, vr, vt, he, hH, hR, hT⟩ := hLI.2 w1 (fun _ _ => rfl)
    have HL := hide (hLI.2 w1 (fun _ _ => rfl))
    have HRN := hide hRn
    simp only [Value.agg.injEq, Array.mk.injEq, List.cons.injEq, and_true, true_and, Value.int.injEq] at he
    obtain ⟨rfl, rfl, rfl, rfl, rfl, rfl⟩ := he
    obtain ⟨b1, c1, hv1, -, m1, -⟩ := SlAt.open hH
    obtain ⟨b2, c2, hv2, -, m2, -⟩ := SlAt.open hR
    obtain ⟨b3, c3, hv3, -, m3, -⟩ := SlAt.open hT
    simp only [Value.slice.injEq] at hv1 hv2 hv3
    obtain ⟨rfl, rfl, rfl⟩ := hv1
    obtain ⟨rfl, rfl, rfl⟩ := hv2
    obtain ⟨rfl, rfl, rfl⟩ := hv3
    unfold maxLen at m1 m2 m3
    have HLI := hide hLI
    have H0 := hide h0
    have hnw1 : n ≤ w1.heap.size := Nat.le_trans hnw hbs
    clear hH hR hT hL hb HSM HLD h0 hLI hRn
    obtain ⟨i1, hi1⟩ := info_parts Tryz.infoRs
    have HIL := hide hi1
    obtain ⟨i2, hi2⟩ := info_parts Tryz.infoSs
    have HIB := hide hi2
    clear hi1 hi2
    have HAF := hide (fun (wz : World) (hz : Below w1.heap.size w1 wz) => AtFirst_own _ L wz ((unhide HL).below hz) (by omega))
    have HL0 := hide (heap_alloc_new w1 (layBox L (.slice a1 L.sw.length d1) (.slice a2 L.rts.length d2) (.slice a3 L.tns.length d3)))
    go_wp2
    go_cut [7] (fun v wx => ∃ gb ag ng cg, v = .pointer (some ⟨gb, 0, none⟩) ∧ w1.heap.size < gb ∧ PMid w1 gb L (.slice a1 L.sw.length d1) (.slice a2 L.rts.length d2) (.slice a3 L.tns.length d3) (.slice ag ng cg) wx (.slice none 0 0) (.slice none 0 0))
    case first =>
      go_region_with (go_at_call 72; refine (unhide HAF _ ?_).mono ?_; (first | exact ((below_alloc w1 _).drew) | exact (below_alloc w1 _)); rintro e w3 ⟨ag, ng, cg, rfl, hI3, hb3⟩; have hl3 := (hb3.block w1.heap.size (by simp)).trans (unhide HL0); obtain ⟨⟨z0, z1, z2, z3, z4, z5⟩, -, qz⟩ := six0 hl3)
      all_goals
        have hb1 : Below w1.heap.size w1 w3 := ((below_alloc w1 (layBox L (.slice a1 L.sw.length d1) (.slice a2 L.rts.length d2) (.slice a3 L.tns.length d3)))).trans (⟨hb3.os, hb3.tape, hb3.output, hb3.size, fun k hk => hb3.block k (by simp; omega)⟩)
        have HP3 := hide (And.intro hl3 (And.intro hI3 hb1))
        clear hl3 hI3 hb3 hb1
        go_wp2_with fail
        go_meet
        exact ⟨w3.heap.size, ag, ng, cg, rfl, qz, (Below.heap_alloc _ _ _ qz).trans (unhide HP3).1, heap_alloc_new _ _, (unhide HP3).2.2.alloc (unhide HP3).2.2.size _, own_base ((unhide HP3).2.1.alloc _) (by simp)⟩
    case rest =>
      obtain ⟨gb, ag, ng, cg, rfl, hgb, hM⟩ := hcut
      have hmc := hM.2.2.1.size
      have HM0 := hide hM
      obtain ⟨⟨z0, z1, z2, z3, z4, z5⟩, -, qp⟩ := six0 hM.1
      have hgc := blk_lt hM.2.1
      clear hM
      go_wp2
      go_loopw [27] (fun i wr => ∃ k : Nat, ∃ vw, i = .int .i64 k ∧ k ≤ L.sw.length ∧ PMid w1 gb L (.slice a1 L.sw.length d1) (.slice a2 L.rts.length d2) (.slice a3 L.tns.length d3) (.slice ag ng cg) wr (.slice none 0 0) vw ∧
          wr.ownsRow wc.heap.size 121 3 vw k ((List.replicate k PSw.new).map swV).flatten ∧ wc.heap.size ≤ wr.heap.size) (fun i _ => L.sw.length - (intOf i).toNat)
      case atStart => exact ⟨0, _, rfl, Nat.zero_le _, unhide HM0, World.ownsRow_nil _ _ _ _, Nat.le_refl _⟩
      case round =>
        clear HM0 z0 z1 z2 z3 z4 z5
        obtain ⟨k, vw, rfl, hk, hM, hw, hcr⟩ := hrel
        have hmm := hM.2.2.1.size
        have HM := hide hM
        obtain ⟨⟨z0, z1, z2, z3, z4, z5⟩, -, qp⟩ := six0 hM.1
        obtain ⟨⟨y0, y1, y2, y3, y4, y5, y6, y7, y8, y9⟩, ⟨f6, f7, f8, f9⟩, qs⟩ := box10 hM.2.1
        clear hM
        by_cases hlt : k < L.sw.length
        · have l1 : (k : Int) < L.sw.length := by omega
          obtain ⟨aw, cw, hvw⟩ := slice_of_own hw
          subst hvw
          go_wp2_with (at_builtin; refine wpList_append_own _ rfl _ _ 85 rfl wc.heap.size 121 i2 (.agg #[.int .u8 0, .int .i64 0, .bool false]) 3 24 Tryz.underlying85 (unhide HIB).1 (unhide HIB).2.1 (unhide HIB).2.2.1 (unhide HIB).2.2.2 rfl (by decide) _ _ _ rfl (hw.alloc _) ⟨wr.heap.size, 0, none⟩ 1 1 [.int .u8 43, .int .i64 0, .bool false] rfl rfl (cells_new _ [.int .u8 43, .int .i64 0, .bool false] _) (by simp [Value.oneCell']) (by unfold maxLen; omega) (by omega) (by simp; omega) ?_; intro v4 w4 hown4 hgrow4 _; have HM4 := hide ((unhide HM).append hw hmc hgrow4 (by decide) (by decide) (by decide)); obtain ⟨⟨r0, r1, r2, r3, r4, r5, r6, r7, r8, r9⟩, ⟨g6, g7, g8, g9⟩, qs4⟩ := box10 (unhide HM4).2.1; obtain ⟨aw', cw', hv'⟩ := slice_of_own hown4; subst hv')
          refine ⟨⟨k + 1, _, by go_num, by omega, ((unhide HM4).store hgb _).2, ?_, ?_⟩, by simp [intOf]; omega⟩
          · rw [swRep]
            exact ownsRow_keep hown4 (Keeps.setCell ⟨gb, 7, none⟩ _ (unhide HM4).typed (by decide))
          · have := hgrow4.size
            simp [World.setCell] at this ⊢
            omega
        · obtain rfl : k = L.sw.length := by omega
          have HW := hide hw
          obtain ⟨aw, cw, hvw⟩ := slice_of_own hw
          subst hvw
          clear hw
          have l1 : (L.sw.length : Int) ≤ L.sw.length := by omega
          go_wp2
          go_loopw [43] (fun i wx => ∃ k : Nat, ∃ vl qv, i = .int .i64 k ∧ k ≤ L.rts.length ∧ PMid w1 gb L (.slice a1 L.sw.length d1) (.slice a2 L.rts.length d2) (.slice a3 L.tns.length d3) (.slice ag ng cg) wx vl (.slice aw L.sw.length cw) ∧
              wx.ownsRow wc.heap.size 121 3 (.slice aw L.sw.length cw) L.sw.length ((List.replicate L.sw.length PSw.new).map swV).flatten ∧ wx.ownsRow wc.heap.size 126 9 vl k (prtsV ((L.rts.take k).map PRt.new) qv).flatten ∧
              qv.length = k ∧ ItOf R w1 (L.rts.take k) qv ∧ wc.heap.size ≤ wx.heap.size) (fun i _ => L.rts.length - (intOf i).toNat)
          case atStart => exact ⟨0, _, [], rfl, Nat.zero_le _, unhide HM, unhide HW, World.ownsRow_nil _ _ _ _, rfl, fun i h => absurd h (by simp), hcr⟩
          case round =>
            clear HM HW z0 z1 z2 z3 z4 z5 y0 y1 y2 y3 y4 y5 y6 y7 y8 y9 f6 f7 f8 f9 qs qp hmm hcr
            obtain ⟨k, vl, qv, rfl, hk, hM, hw, hl, hql, hA, hcr⟩ := hrel
            have hmm := hM.2.2.1.size
            have HM := hide hM
            obtain ⟨⟨y0, y1, y2, y3, y4, y5, y6, y7, y8, y9⟩, ⟨f6, f7, f8, f9⟩, qs⟩ := box10 hM.2.1
            by_cases hlt : k < L.rts.length
            · have l1 : (k : Int) < L.rts.length := by omega
              have l0 : (0 : Int) ≤ k := by omega
              obtain ⟨gx, ox, cx, vp, vf, hax, hgx, hcx, hit⟩ := (unhide HLI).route k hlt
              simp only [Value.slice.injEq, true_and] at hax
              obtain ⟨rfl, rfl⟩ := hax
              have hc0 := hcx 0 (by omega)
              have hc1 := hcx 1 (by omega)
              have hc2 := hcx 2 (by omega)
              rw [← hM.2.2.1.cell (p := ⟨gx, _, none⟩) hgx] at hc0 hc1 hc2
              simp at hc0 hc1 hc2
              obtain ⟨hP, hF⟩ := hit w1 (fun _ _ => rfl)
              have HIt := hide hit
              obtain ⟨ap, cp, rfl, -⟩ := SlAt.open hP
              obtain ⟨af, cf, rfl, -⟩ := SlAt.open hF
              have hgxr : gx < wr.heap.size := by omega
              obtain ⟨al, cl, hvl⟩ := slice_of_own hl
              subst hvl
              have HTK := hide (show L.rts.take (k + 1) = L.rts.take k ++ [L.rts[k]] from List.take_succ_eq_append_getElem hlt)
              have hkl : qv.length = (L.rts.take k).length := by simp; omega
              have HKL := hide hkl
              have HQL := hide hql
              have HA := hide hA
              clear hcx hP hF hM hA hit hkl hql
              generalize L.rts[k] = X at *
              go_wp2
              go_region_law (refine step_append_own rfl (.tmp 51) (.tmp 54) 84 rfl wc.heap.size 126 i1 (.agg #[.int .i64 0, .slice none 0 0, .slice none 0 0, .int .u8 0, .int .i64 0, .bool false, .int .i64 0, .slice none 0 0, .int .i64 0]) 9 120 Tryz.underlying84 (unhide HIL).1 (unhide HIL).2.1 (unhide HIL).2.2.1 (unhide HIL).2.2.2 rfl (by decide) (.slice al k cl) _ _ (by simp [Act.eval]) (((hl.alloc _).alloc _).drew) ⟨wr.heap.size + 1, 0, none⟩ 1 1 [.int .i64 X.foot, .slice ap X.path.length cp, .slice af X.flank.length cf, .int .u8 46, .int .i64 0, .bool false, .int .i64 0, .slice none 0 0, .int .i64 0] (by simp [Act.eval]) rfl (cells_new_at (wr.alloc _) [.int .i64 X.foot, .slice ap X.path.length cp, .slice af X.flank.length cf, .int .u8 46, .int .i64 0, .bool false, .int .i64 0, .slice none 0 0, .int .i64 0] _ _ (by simp)) (by simp [Value.oneCell']) (by unfold maxLen; omega) (by omega) (by simp; omega) ?_; intro v' w4 hown4 hgrow4; have hg2 := grown_drew hgrow4; have HM4 := hide (((unhide HM).below (below_alloc wr _)).append (hl.alloc _) hmc hg2 (by decide) (by decide) (by decide)); obtain ⟨⟨r0, r1, r2, r3, r4, r5, r6, r7, r8, r9⟩, ⟨g6, g7, g8, g9⟩, qs4⟩ := box10 (unhide HM4).2.1; obtain ⟨al', cl', hv'⟩ := slice_of_own hown4; subst hv')
              all_goals
                have kk := fun e (n1 : 126 ≠ e) (n2 : 87 ≠ e) => ((Keeps.alloc e wr _).trans (append_keeps (hl.alloc _) hg2 n1)).trans (Keeps.setCell ⟨gb, 6, none⟩ (.slice al' (k + 1) cl') (unhide HM4).typed n2)
                have ho5 := ownsRow_keep hown4 (Keeps.setCell ⟨gb, 6, none⟩ (.slice al' (k + 1) cl') (unhide HM4).typed (by decide))
                have hw5 := ownsRow_keep hw (kk _ (by decide) (by decide))
                have hsz5 := hg2.size
                clear hl hw hown4 hgrow4 hg2
                go_wp2
                refine ⟨⟨k + 1, _, qv ++ [(.slice ap X.path.length cp, .slice af X.flank.length cf, .slice none 0 0)], by go_num, by omega, ((unhide HM4).store hgb _).1, hw5, ?_, by simp [unhide HQL], ?_, ?_⟩, by simp [intOf]; omega⟩
                · rw [unhide HTK, List.map_append]
                  have e := prtsV_snoc ((L.rts.take k).map PRt.new) qv (by rw [List.length_map]; exact unhide HKL) (PRt.new X) (.slice ap X.path.length cp, .slice af X.flank.length cf, .slice none 0 0)
                  rw [show [X].map PRt.new = [PRt.new X] from rfl, e, List.flatten_append]
                  simpa [prtV, PRt.new] using ho5
                · rw [unhide HTK]
                  exact (unhide HA).snoc (unhide HKL) rfl (unhide HIt)
                · simp [World.setCell] at hsz5 ⊢
                  omega
            · obtain rfl : k = L.rts.length := by omega
              rw [List.take_length] at hA hl
              have HQ := hide (hM.fin hmc hnw1 hgb (unhide HLI) (unhide HRN) hw hl hql hA)
              have HBF := hide ((unhide HB).trans (hM.2.2.1.mono hbs))
              have l1 : (L.rts.length : Int) ≤ L.rts.length := by omega
              clear hM hA hl hw
              go_wp2
              go_ret2
              exact ⟨.inr ⟨unhide H0, gb, rfl, by omega, unhide HQ⟩, unhide HBF⟩
  · have hz : ((F.1 : Int) != 0) = true := by simp [h0]
    have H0 := hide h0
    clear hL hb h0
    go_wp2
    go_ret2
    exact ⟨.inl ⟨unhide H0, rfl⟩, (unhide HB).alloc hbs _⟩
end Go.Proofs.YtkbpocecbcaiiaaGreatDoor
