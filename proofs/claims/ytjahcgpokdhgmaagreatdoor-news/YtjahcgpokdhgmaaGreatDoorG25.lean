import Derived.Test.YtjahcgpokdhgmaaGreatDoorG24
import Derived.Test.YtjahcgpokdhgmaaGreatDoorG23
import Derived.Test.YtjahcgpokdhgmaaGreatDoorG11
import Derived.Deep.DeepCutAuto
/-
  THE WALK OVER rails.New, from what load gives.
-/
namespace Go.Proofs.YtjahcgpokdhgmaaGreatDoor
open Go.RowKit

def PBx.init (L : Lay) : PBx := ⟨L, L.rts.map (fun r => ⟨r, 46, 0, [], 0⟩), List.replicate L.sw.length 43, List.replicate L.tns.length 0, []⟩

def pbox (L : Lay) (vs vr vt vl vw vg : Value) : Obj := .cells #[.int .i64 L.T, .int .i64 L.D, .int .i64 L.Q, vs, vr, vt, vl, vw, vg, .slice none 0 0] 86
/-- midway: the layout's block, the box's block. -/
def PMid (w1 : World) (gb : Nat) (L : Lay) (vs vr vt vg : Value) (wr : World) (vl vw : Value) : Prop :=
  wr.heap[w1.heap.size]? = some (layBox L vs vr vt) ∧ wr.heap[gb]? = some (pbox L vs vr vt vl vw vg) ∧ Below w1.heap.size w1 wr ∧ Ints wr vg (List.replicate L.tns.length 0)
theorem PMid.append {w1 : World} {gb B : Nat} {L : Lay} {vs vr vt vg vl vw v : Value} {wr w2 : World} {e : TypeId} {size n : Nat} {xs : List Value} {o : Obj} (h : PMid w1 gb L vs vr vt vg wr vl vw) (hown : wr.ownsRow B e size v n xs)
    (hB : w1.heap.size ≤ B) (hg : (wr.alloc o).grownBy w2 v.ownBlock) (h1 : e ≠ 83) (h2 : e ≠ 86) (h3 : e ≠ 3) : PMid w1 gb L vs vr vt vg w2 vl vw :=
  ⟨(append_keeps hown hg h1 _ _ _ h.1).trans h.1, (append_keeps hown hg h2 _ _ _ h.2.1).trans h.2.1,
   (h.2.2.1.alloc h.2.2.1.size o).grown hg (by have := h.2.2.1.size; simp; omega) (fun k hk => by have := (hown.lt k hk).1; omega), h.2.2.2.keep (append_keeps hown hg h3)⟩
theorem PMid.below {w1 : World} {gb : Nat} {L : Lay} {vs vr vt vg vl vw : Value} {wr w2 : World} (h : PMid w1 gb L vs vr vt vg wr vl vw) (hb : Below wr.heap.size wr w2) : PMid w1 gb L vs vr vt vg w2 vl vw :=
  ⟨(hb.block _ (blk_lt h.1)).trans h.1, (hb.block _ (blk_lt h.2.1)).trans h.2.1, h.2.2.1.trans (hb.mono h.2.2.1.size), h.2.2.2.below hb⟩
theorem PMid.typed {w1 : World} {gb : Nat} {L : Lay} {vs vr vt vg vl vw : Value} {wr : World} (h : PMid w1 gb L vs vr vt vg wr vl vw) : Typed wr gb 86 := ⟨_, _, h.2.1⟩
theorem PMid.store {w1 : World} {gb : Nat} {L : Lay} {vs vr vt vg vl vw : Value} {wr : World} (h : PMid w1 gb L vs vr vt vg wr vl vw) (hgb : w1.heap.size < gb) (u : Value) :
    PMid w1 gb L vs vr vt vg (wr.setCell ⟨gb, 6, none⟩ u) u vw ∧ PMid w1 gb L vs vr vt vg (wr.setCell ⟨gb, 7, none⟩ u) vl u := by
  have hz : ∀ j, (wr.setCell ⟨gb, j, none⟩ u).heap[w1.heap.size]? = some (layBox L vs vr vt) := fun j => by
    rw [Below.heap_setCell _ _ _ _ (by simp; omega)]; exact h.1
  have hb : ∀ j, Below w1.heap.size w1 (wr.setCell ⟨gb, j, none⟩ u) := fun j => h.2.2.1.setCell (p := ⟨gb, j, none⟩) (by simp; omega) u
  have hi : ∀ j, Ints (wr.setCell ⟨gb, j, none⟩ u) vg (List.replicate L.tns.length 0) := fun j => h.2.2.2.keep (Keeps.setCell ⟨gb, j, none⟩ u h.typed (by decide))
  exact ⟨⟨hz 6, blk_setCell u h.2.1, hb 6, hi 6⟩, ⟨hz 7, blk_setCell u h.2.1, hb 7, hi 7⟩⟩
theorem Tryz.infoRs : (Tryz.prog.info? 123).map (fun i => (i.zero, i.size, i.bytes)) = some (some (.agg #[.int .i64 0, .slice none 0 0, .slice none 0 0, .int .u8 0, .int .i64 0, .slice none 0 0, .int .i64 0]), 7, 104) := by kernel_rfl

set_option maxHeartbeats 4000000 in
theorem pNew_of (s : ByteArray) (F : Nat × Nat) (L : Lay) (w : World)
    (hload : Calls Tryz.prog 70 #[.string s] w fun e w' => ∃ v, e = .returned (.tuple #[v, .int .i64 F.1, .int .i64 F.2]) ∧ LShape v ∧ (F.1 = 0 → CLay w' v L) ∧ Below w.heap.size w w')
    (hsm : F.1 = 0 → L.sw.length ≤ 16 ∧ L.rts.length ≤ 12 ∧ L.tns.length ≤ 5) :
    Calls Tryz.prog 33 #[.string s] w fun e w' =>
      ((F.1 ≠ 0 ∧ e = .returned (.tuple #[.pointer none, .int .i64 F.1])) ∨
       (F.1 = 0 ∧ ∃ g, e = .returned (.tuple #[.pointer (some ⟨g, 0, none⟩), .int .i64 0]) ∧ w.heap.size ≤ g ∧ PBoxAt w' g (PBx.init L))) ∧ Below w.heap.size w w' := by
  have HLD := hide hload
  have HSM := hide hsm
  clear hload hsm
  go_enter Tryz.func33, Tryz.ntmps33
  go_wp2_with fail
  refine (unhide HLD).mono ?_
  rintro e w1 ⟨v, rfl, ⟨T, D, Q, a1, a2, a3, n1, n2, n3, d1, d2, d3, rfl⟩, hL, hb⟩
  have HB := hide hb
  have hbs := hb.size
  by_cases h0 : F.1 = 0
  · have hz : ((F.1 : Int) != 0) = false := by simp [h0]
    obtain ⟨hs1, hs2, hs3⟩ := unhide HSM h0
    obtain ⟨vh, vr, vt, he, hH, hR, hT⟩ := hL h0
    have HL := hide (hL h0)
    simp only [Value.agg.injEq, Array.mk.injEq, List.cons.injEq, and_true, true_and, Value.int.injEq] at he
    obtain ⟨rfl, rfl, rfl, rfl, rfl, rfl⟩ := he
    obtain ⟨b1, c1, hv1, -, m1, -⟩ := SlAt.open hH
    obtain ⟨b2, c2, hv2, -, m2, x2⟩ := SlAt.open hR
    obtain ⟨b3, c3, hv3, -, m3, -⟩ := SlAt.open hT
    simp only [Value.slice.injEq] at hv1 hv2 hv3
    obtain ⟨rfl, rfl, rfl⟩ := hv1
    obtain ⟨rfl, rfl, rfl⟩ := hv2
    obtain ⟨rfl, rfl, rfl⟩ := hv3
    unfold maxLen at m1 m2 m3
    have HX := hide x2
    have H0 := hide h0
    clear hH hR hT hL hb HSM HLD x2 h0
    obtain ⟨i1, hi1⟩ := info_parts Tryz.infoRs
    have HIL := hide hi1
    obtain ⟨i2, hi2⟩ := info_parts Tryz.infoByte
    have HIB := hide hi2
    clear hi1 hi2
    have HAF := hide (fun (wz : World) (hz : Below w1.heap.size w1 wz) => AtFirst_any _ L wz ((unhide HL).below hz) (by omega))
    have HL0 := hide (heap_alloc_new w1 (layBox L (.slice a1 L.sw.length d1) (.slice a2 L.rts.length d2) (.slice a3 L.tns.length d3)))
    go_wp2
    go_cut [7] (fun v wx => ∃ gb ag ng cg, v = .pointer (some ⟨gb, 0, none⟩) ∧ w1.heap.size < gb ∧ PMid w1 gb L (.slice a1 L.sw.length d1) (.slice a2 L.rts.length d2) (.slice a3 L.tns.length d3) (.slice ag ng cg) wx (.slice none 0 0) (.slice none 0 0))
    case first =>
      go_region_with (go_at_call 71; refine (unhide HAF _ ?_).mono ?_; (first | exact ((below_alloc w1 _).drew) | exact (below_alloc w1 _)); rintro e w3 ⟨ag, ng, cg, rfl, hI3, hb3⟩; have hl3 := (hb3.block w1.heap.size (by simp)).trans (unhide HL0); obtain ⟨⟨z0, z1, z2, z3, z4, z5⟩, -, qz⟩ := six0 hl3)
      all_goals
        have hb1 : Below w1.heap.size w1 w3 := ((below_alloc w1 (layBox L (.slice a1 L.sw.length d1) (.slice a2 L.rts.length d2) (.slice a3 L.tns.length d3)))).trans (⟨hb3.os, hb3.tape, hb3.output, hb3.size, fun k hk => hb3.block k (by simp; omega)⟩)
        have HP3 := hide (And.intro hl3 (And.intro hI3 hb1))
        clear hl3 hI3 hb3 hb1
        go_wp2_with fail
        go_meet
        exact ⟨w3.heap.size, ag, ng, cg, rfl, qz, (Below.heap_alloc _ _ _ qz).trans (unhide HP3).1, heap_alloc_new _ _, (unhide HP3).2.2.alloc (unhide HP3).2.2.size _, (unhide HP3).2.1.below (below_alloc _ _)⟩
    case rest =>
      obtain ⟨gb, ag, ng, cg, rfl, hgb, hM⟩ := hcut
      have hmc := hM.2.2.1.size
      have HM0 := hide hM
      obtain ⟨⟨z0, z1, z2, z3, z4, z5⟩, -, qp⟩ := six0 hM.1
      have hgc := blk_lt hM.2.1
      clear hM
      go_wp2
      go_loopw [27] (fun i wr => ∃ k : Nat, ∃ vw, i = .int .i64 k ∧ k ≤ L.sw.length ∧ PMid w1 gb L (.slice a1 L.sw.length d1) (.slice a2 L.rts.length d2) (.slice a3 L.tns.length d3) (.slice ag ng cg) wr (.slice none 0 0) vw ∧
          wr.ownsRow wc.heap.size 5 1 vw k (bytsV (List.replicate k 43)) ∧ wc.heap.size ≤ wr.heap.size) (fun i _ => L.sw.length - (intOf i).toNat)
      case atStart => exact ⟨0, _, rfl, Nat.zero_le _, unhide HM0, World.ownsRow_nil _ _ _ _, Nat.le_refl _⟩
      case round =>
        clear HM0 z0 z1 z2 z3 z4 z5
        obtain ⟨k, vw, rfl, hk, hM, hw, hcr⟩ := hrel
        have hmm := hM.2.2.1.size
        have HM := hide hM
        obtain ⟨⟨z0, z1, z2, z3, z4, z5⟩, -, qp⟩ := six0 hM.1
        obtain ⟨⟨y0, y1, y2, y3, y4, y5, y6, y7, y8, y9⟩, ⟨f6, f7, f8, f9⟩, qs⟩ := box10 hM.2.1
        clear hM
        by_cases hlt : k < L.sw.length
        · have l1 : (k : Int) < L.sw.length := by omega
          obtain ⟨aw, cw, hvw⟩ := slice_of_own hw
          subst hvw
          go_wp2_with (at_builtin; refine wpList_append_own _ rfl _ _ 75 rfl wc.heap.size 5 i2 (.int .u8 0) 1 1 Tryz.underlying75 (unhide HIB).1 (unhide HIB).2.1 (unhide HIB).2.2.1 (unhide HIB).2.2.2 rfl (by decide) _ _ _ rfl (hw.alloc _) ⟨wr.heap.size, 0, none⟩ 1 1 [_] rfl rfl (one_new _ _ _) (one_cell1 rfl) (by unfold maxLen; omega) (by omega) (by simp; omega) ?_; intro v4 w4 hown4 hgrow4 _; have HM4 := hide ((unhide HM).append hw hmc hgrow4 (by decide) (by decide) (by decide)); obtain ⟨⟨r0, r1, r2, r3, r4, r5, r6, r7, r8, r9⟩, ⟨g6, g7, g8, g9⟩, qs4⟩ := box10 (unhide HM4).2.1; obtain ⟨aw', cw', hv'⟩ := slice_of_own hown4; subst hv')
          refine ⟨⟨k + 1, _, by go_num, by omega, ((unhide HM4).store hgb _).2, ?_, ?_⟩, by simp [intOf]; omega⟩
          · rw [bytsV_rep]
            exact ownsRow_keep hown4 (Keeps.setCell ⟨gb, 7, none⟩ _ (unhide HM4).typed (by decide))
          · have := hgrow4.size
            simp [World.setCell] at this ⊢
            omega
        · obtain rfl : k = L.sw.length := by omega
          have HW := hide hw
          obtain ⟨aw, cw, hvw⟩ := slice_of_own hw
          subst hvw
          clear hw
          have l1 : (L.sw.length : Int) ≤ L.sw.length := by omega
          go_wp2
          go_loopw [42] (fun i wx => ∃ k : Nat, ∃ vl css, i = .int .i64 k ∧ k ≤ L.rts.length ∧ PMid w1 gb L (.slice a1 L.sw.length d1) (.slice a2 L.rts.length d2) (.slice a3 L.tns.length d3) (.slice ag ng cg) wx vl (.slice aw L.sw.length cw) ∧
              wx.ownsRow wc.heap.size 5 1 (.slice aw L.sw.length cw) L.sw.length (bytsV (List.replicate L.sw.length 43)) ∧ wx.ownsRow wc.heap.size 123 7 vl k css.flatten ∧
              All2 (CPRt wx) ((L.rts.take k).map (fun r => ⟨r, 46, 0, [], 0⟩)) css ∧ (∀ c, c ∈ css → c.length = 7) ∧ wc.heap.size ≤ wx.heap.size) (fun i _ => L.rts.length - (intOf i).toNat)
          case atStart => exact ⟨0, _, [], rfl, Nat.zero_le _, unhide HM, unhide HW, World.ownsRow_nil _ _ _ _, trivial, by simp, hcr⟩
          case round =>
            clear HM HW z0 z1 z2 z3 z4 z5 y0 y1 y2 y3 y4 y5 y6 y7 y8 y9 f6 f7 f8 f9 qs qp hmm hcr
            obtain ⟨k, vl, css, rfl, hk, hM, hw, hl, hA, hcl, hcr⟩ := hrel
            have hmm := hM.2.2.1.size
            have HM := hide hM
            obtain ⟨⟨y0, y1, y2, y3, y4, y5, y6, y7, y8, y9⟩, ⟨f6, f7, f8, f9⟩, qs⟩ := box10 hM.2.1
            by_cases hlt : k < L.rts.length
            · have l1 : (k : Int) < L.rts.length := by omega
              have l0 : (0 : Int) ≤ k := by omega
              obtain ⟨gx, ox, hax, hgx, csx, -, hCx, hcx⟩ := unhide HX k hlt
              subst hax
              obtain ⟨vp, vf, hcs, hP, hF⟩ := hCx
              subst hcs
              have hc0 := hcx 0 (by omega)
              have hc1 := hcx 1 (by omega)
              have hc2 := hcx 2 (by omega)
              rw [← hM.2.2.1.cell (p := ⟨gx, _, none⟩) hgx] at hc0 hc1 hc2
              simp at hc0 hc1 hc2
              have HIt := hide (And.intro (hP.keep (Keeps.below hM.2.2.1)) (hF.keep (Keeps.below hM.2.2.1)))
              obtain ⟨ap, cp, rfl, -⟩ := SlAt.open hP
              obtain ⟨af, cf, rfl, -⟩ := SlAt.open hF
              have hgxr : gx < wr.heap.size := by omega
              obtain ⟨al, cl, hvl⟩ := slice_of_own hl
              subst hvl
              have HTK := hide (show (L.rts.take (k + 1)).map (fun r => (⟨r, 46, 0, [], 0⟩ : PRt)) = (L.rts.take k).map (fun r => (⟨r, 46, 0, [], 0⟩ : PRt)) ++ [⟨L.rts[k], 46, 0, [], 0⟩] by
                rw [List.take_succ_eq_append_getElem hlt, List.map_append]; rfl)
              have HA := hide hA
              clear hcx hP hF hM hA
              generalize L.rts[k] = R at *
              go_wp2
              go_region_law (refine step_append_own rfl (.tmp 50) (.tmp 53) 84 rfl wc.heap.size 123 i1 (.agg #[.int .i64 0, .slice none 0 0, .slice none 0 0, .int .u8 0, .int .i64 0, .slice none 0 0, .int .i64 0]) 7 104 Tryz.underlying84 (unhide HIL).1 (unhide HIL).2.1 (unhide HIL).2.2.1 (unhide HIL).2.2.2 rfl (by decide) (.slice al k cl) _ _ (by simp [Act.eval]) (((hl.alloc _).alloc _).drew) ⟨wr.heap.size + 1, 0, none⟩ 1 1 [.int .i64 R.foot, .slice ap R.path.length cp, .slice af R.flank.length cf, .int .u8 46, .int .i64 0, .slice none 0 0, .int .i64 0] (by simp [Act.eval]) rfl (cells_new_at (wr.alloc _) [.int .i64 R.foot, .slice ap R.path.length cp, .slice af R.flank.length cf, .int .u8 46, .int .i64 0, .slice none 0 0, .int .i64 0] _ _ (by simp)) (by simp [Value.oneCell']) (by unfold maxLen; omega) (by omega) (by simp; omega) ?_; intro v' w4 hown4 hgrow4; have hg2 := grown_drew hgrow4; have HM4 := hide (((unhide HM).below (below_alloc wr _)).append (hl.alloc _) hmc hg2 (by decide) (by decide) (by decide)); obtain ⟨⟨r0, r1, r2, r3, r4, r5, r6, r7, r8, r9⟩, ⟨g6, g7, g8, g9⟩, qs4⟩ := box10 (unhide HM4).2.1; obtain ⟨al', cl', hv'⟩ := slice_of_own hown4; subst hv')
              all_goals
                have kk := fun e (n1 : 123 ≠ e) (n2 : 86 ≠ e) => ((Keeps.alloc e wr _).trans (append_keeps (hl.alloc _) hg2 n1)).trans (Keeps.setCell ⟨gb, 6, none⟩ (.slice al' (k + 1) cl') (unhide HM4).typed n2)
                have ho5 := ownsRow_keep hown4 (Keeps.setCell ⟨gb, 6, none⟩ (.slice al' (k + 1) cl') (unhide HM4).typed (by decide))
                have hw5 := ownsRow_keep hw (kk _ (by decide) (by decide))
                have hsz5 := hg2.size
                clear hl hw hown4 hgrow4 hg2
                go_wp2
                refine ⟨⟨k + 1, _, css ++ [[.int .i64 R.foot, .slice ap R.path.length cp, .slice af R.flank.length cf, .int .u8 46, .int .i64 0, .slice none 0 0, .int .i64 0]], by go_num, by omega, ((unhide HM4).store hgb _).1, hw5, ?_, ?_, ?_, ?_⟩, by simp [intOf]; omega⟩
                · rw [List.flatten_append]; simpa using ho5
                · rw [unhide HTK]
                  refine All2.snoc ⟨_, _, _, rfl, ?_, ?_, SlAt.nil _ _ _ _⟩ (All2.mono (fun _ _ h => h.keep (kk _ (by decide) (by decide)) (kk _ (by decide) (by decide))) (unhide HA))
                  · exact (unhide HIt).1.keep (kk _ (by decide) (by decide))
                  · exact (unhide HIt).2.keep (kk _ (by decide) (by decide))
                · intro c hc
                  rcases List.mem_append.1 hc with h | h
                  · exact hcl c h
                  · simp at h; subst h; rfl
                · simp [World.setCell] at hsz5 ⊢
                  omega
            · obtain rfl : k = L.rts.length := by omega
              rw [List.take_length] at hA
              have hN : PRts wr vl (L.rts.map (fun r => ⟨r, 46, 0, [], 0⟩)) := SlAt.ofOwnN hl hA hcl (by simp)
              have hW := Byts.ofOwn hw (by simp)
              have hCL := (unhide HL).below hM.2.2.1
              have HQ := hide (show PBoxAt wr gb (PBx.init L) from ⟨_, _, _, _, _, _, _, hM.2.1, hCL, hN, hW, hM.2.2.2, SlAt.nil _ _ _ _⟩)
              have HBF := hide ((unhide HB).trans (hM.2.2.1.mono hbs))
              have l1 : (L.rts.length : Int) ≤ L.rts.length := by omega
              clear hN hW hCL hM hA hl hw
              go_wp2
              go_ret2
              exact ⟨.inr ⟨unhide H0, gb, rfl, by omega, unhide HQ⟩, unhide HBF⟩
  · have hz : ((F.1 : Int) != 0) = true := by simp [h0]
    have H0 := hide h0
    clear hL hb h0
    go_wp2
    go_ret2
    exact ⟨.inl ⟨unhide H0, rfl⟩, (unhide HB).alloc hbs _⟩
end Go.Proofs.YtjahcgpokdhgmaaGreatDoor
