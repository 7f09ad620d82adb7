import Derived.Test.YtkbpocecbcaiiaaGreatDoorJ32
namespace Go.Proofs.YtkbpocecbcaiiaaGreatDoor
open Go.RowKit
theorem row_made (w : World) (base n : Nat) (hb : base <= w.heap.size) (hn : n <= maxLen) : (w.alloc (.cells (madeCells #[.int .i64 0] n) 3)).ownsRow base 3 1 (.slice (some ⟨w.heap.size, 0, none⟩) n n) n (intsV (List.replicate n 0)) := by
 refine ⟨by simp [intsV], .inr ⟨w.heap.size, n, _, rfl, hb, heap_alloc_new w _, Nat.le_refl _, hn, ?_, ?_⟩⟩
 ·have := congrArg List.length (toList_madeCells_one (.int .i64 0) n)
  simpa using this
 ·rw [toList_madeCells_one]; simp [intsV]
def RNewAt (n : Nat) (w' : World) (g : Nat) (L : Lay) : Prop := ∃ (w1 : World) (vh vr vt vl vw vf vd va : Value), n <= w1.heap.size /\ RPlanL n w1 (.agg #[.int .i64 L.T, .int .i64 L.D, .int .i64 L.Q, vh, vr, vt]) L /\ Below w1.heap.size w1 w' /\ g = w1.heap.size + 1 ∧
 w'.heap[g]? = some (.cells #[.int .i64 L.T, .int .i64 L.D, .int .i64 L.Q, vh, vr, vt, vl, vw, vf, vd, va, .slice none 0 0] 159 (0, 0)) ∧
 w'.ownsRow (w1.heap.size + 2) 161 6 vl L.rts.length (List.replicate L.rts.length z3v).flatten /\ w'.ownsRow (w1.heap.size + 2) 5 1 vw L.sw.length (bytsV (L.sw.map (fun b => if b then 43 else 0))) ∧
 w'.ownsRow (w1.heap.size + 2) 4 1 vf L.sw.length (z0t (List.replicate L.sw.length false)) /\ w'.ownsRow (w1.heap.size + 2) 3 1 vd L.sw.length (intsV (List.replicate L.sw.length 0)) ∧
 w'.ownsRow (w1.heap.size + 2) 3 1 va L.tns.length (intsV (List.replicate L.tns.length 0)) /\ ∀ b, vd.ownBlock = some b -> va.ownBlock ≠ some b
set_option maxHeartbeats 4000000 in
theorem rNew_lo (s : ByteArray) (w : World) (hF : FormOK) :
  Calls Tryz.prog 58 #[.string s] w fun e w' =>
   (((errOf s.data.toList).1 ≠ 0 /\ e = .returned (.tuple #[.pointer none, .int .i64 (errOf s.data.toList).1])) ∨
    ((errOf s.data.toList).1 = 0 /\ ∃ g, e = .returned (.tuple #[.pointer (some ⟨g, 0, none⟩), .int .i64 0]) /\ w.heap.size <= g /\ RBoxAt w' g (RBx.init (layOf s.data.toList)) /\ RNewAt w.heap.size w' g (layOf s.data.toList))) /\ Below w.heap.size w w' := by
 have HRD := zh (Read_lo s w (fun h => hF _ (by simpa using h)))
 have HBIG := zh (show (errOf s.data.toList).1 = 0 -> (layOf s.data.toList).big = false from fun h => (err0 _ h).2.2.1)
 obtain ⟨E, hE⟩ : ∃ E, E = errOf s.data.toList := ⟨_, rfl⟩
 rw [<- hE] at HRD HBIG ⊢
 generalize layOf s.data.toList = L at *
 clear hF hE
 go_enter Tryz.func58, Tryz.ntmps58
 go_wp2_with fail
 refine (uh HRD).mono ?_
 rintro e w1 ⟨v, rfl, ⟨T, D, Q, a1, a2, a3, n1, n2, n3, d1, d2, d3, rfl⟩, hLL, hb⟩
 have hL := fun h => (hLL h).plan
 have HLL := zh hLL
 clear hLL
 have HB := zh hb
 have hbs := hb.size
 by_cases h0 : E.1 = 0
 ·have hz : ((E.1 : Int) != 0) = false := by simp [h0]
  have hbig := uh HBIG h0
  obtain ⟨vh, vr, vt, he, hH, hR, hT⟩ := hL h0
  have HL := zh (hL h0)
  have HLL := zh (uh HLL h0)
  simp only [Value.agg.injEq, Array.mk.injEq, List.cons.injEq, and_true, true_and, Value.int.injEq] at he
  obtain ⟨rfl, rfl, rfl, rfl, rfl, rfl⟩ := he
  obtain ⟨b1, c1, hv1, -, m1, x1⟩ := SlAt.open hH
  obtain ⟨b2, c2, hv2, -, m2, -⟩ := SlAt.open hR
  obtain ⟨b3, c3, hv3, -, m3, -⟩ := SlAt.open hT
  simp only [Value.slice.injEq] at hv1 hv2 hv3
  obtain ⟨rfl, rfl, rfl⟩ := hv1
  obtain ⟨rfl, rfl, rfl⟩ := hv2
  obtain ⟨rfl, rfl, rfl⟩ := hv3
  have hsm : L.sw.length <= 16 /\ L.rts.length <= 12 /\ L.tns.length <= 5 := by
   unfold Lay.big at hbig
   simp only [Bool.or_eq_false_iff, decide_eq_false_iff_not] at hbig
   omega
  obtain ⟨hs1, hs2, hs3⟩ := hsm
  unfold maxLen at m1 m2 m3
  have HX := zh x1
  have H0 := zh h0
  clear hH hR hT hL hb hbig HBIG HRD x1 h0
  obtain ⟨i1, hi1⟩ := info_parts Tryz.infoLine
  have HIL := zh hi1
  obtain ⟨i2, hi2⟩ := info_parts Tryz.infoByte
  have HIB := zh hi2
  obtain ⟨i3, hi3⟩ := info_parts Tryz.infoBool
  have HIO := zh hi3
  obtain ⟨i4, hi4⟩ := info_parts Tryz.infoInt
  have HII := zh hi4
  clear hi1 hi2 hi3 hi4
  have HM0 := zh (show NMid w1 L (.slice a1 L.sw.length d1) (.slice a2 L.rts.length d2) (.slice a3 L.tns.length d3) ((w1.alloc (z0v L (.slice a1 L.sw.length d1) (.slice a2 L.rts.length d2) (.slice a3 L.tns.length d3))).alloc (rbox L (.slice a1 L.sw.length d1) (.slice a2 L.rts.length d2) (.slice a3 L.tns.length d3) (.slice none 0 0) (.slice none 0 0) (.slice none 0 0) (.slice none 0 0))) (.slice none 0 0) (.slice none 0 0) (.slice none 0 0) (.slice none 0 0) from
   ⟨blk1 w1 _ _, blk2 w1 _ _, z06 (Below.refl _ _)⟩)
  go_wp2
  go_loopw [8] (fun i wr => ∃ k : Nat, ∃ vl, i = .int .i64 k /\ k <= L.rts.length /\ NMid w1 L (.slice a1 L.sw.length d1) (.slice a2 L.rts.length d2) (.slice a3 L.tns.length d3) wr vl (.slice none 0 0) (.slice none 0 0) (.slice none 0 0) ∧
    wr.ownsRow (w1.heap.size + 2) 161 6 vl k (List.replicate k z3v).flatten) (fun i _ => L.rts.length - (intOf i).toNat)
  case atStart => exact ⟨0, _, rfl, Nat.zero_le _, uh HM0, World.ownsRow_nil _ _ _ _⟩
  case round =>
   clear HM0
   obtain ⟨k, vl, rfl, hk, hM, hown⟩ := hrel
   have hmm := hM.2.2.size
   have HM := zh hM
   obtain ⟨⟨z0, z1, z2, z3, z4, z5⟩, -, qp⟩ := six0 hM.1
   obtain ⟨⟨y3, y4, y5, y6, y7, y8, y9, y10, y11⟩, ⟨f6, f7, f8, f9, f10, f11⟩, qs⟩ := box12 hM.2.1
   clear hM
   by_cases hlt : k < L.rts.length
   ·have l1 : (k : Int) < L.rts.length := by omega
    obtain ⟨ah, ch, hvl⟩ := z03 hown
    subst hvl
    have HFR := zh (flat_rep k z3v)
    go_wp2_with (at_builtin; refine wpList_append_own _ rfl _ _ 157 rfl (w1.heap.size + 2) 161 i1 (.agg #[.int .u8 0, .int .i64 0, .bool false, .slice none 0 0, .int .i64 0, .int .i64 0]) 6 64 Tryz.underlying157 (uh HIL).1 (uh HIL).2.1 (uh HIL).2.2.1 (uh HIL).2.2.2 rfl (by decide) _ _ _ rfl (hown.alloc _) ⟨wr.heap.size, 0, none⟩ 1 1 z3v rfl rfl (z3n _ z3v _) (by simp [z3v, Value.oneCell']) (by unfold maxLen; omega) (by omega) (by simp; omega) ?_; intro v4 w4 hown4 hgrow4 _; have HM4 := zh ((uh HM).append hown hgrow4 (by decide) (by decide)); obtain ⟨⟨r3, r4, r5, r6, r7, r8, r9, r10, r11⟩, ⟨g6, g7, g8, g9, g10, g11⟩, qs4⟩ := box12 (uh HM4).2.1; obtain ⟨ah', ch', hv'⟩ := z03 hown4; subst hv')
    refine ⟨⟨k + 1, _, by go_num, by omega, ((uh HM4).store _).1, ?_⟩, by simp [intOf]; omega⟩
    rw [uh HFR]
    exact z01 hown4 (Keeps.setCell ⟨w1.heap.size + 1, 6, none⟩ _ (uh HM4).typed (by decide))
   ·obtain rfl : k = L.rts.length := by omega
    have HLN := zh hown
    obtain ⟨ah, ch, hvl⟩ := z03 hown
    subst hvl
    clear hown
    have l1 : (L.rts.length : Int) <= L.rts.length := by omega
    go_wp2
    go_loopw [9] (fun i wr => ∃ k : Nat, ∃ vw vf vd, i = .int .i64 k /\ k <= L.sw.length /\ NMid w1 L (.slice a1 L.sw.length d1) (.slice a2 L.rts.length d2) (.slice a3 L.tns.length d3) wr (.slice ah L.rts.length ch) vw vf vd ∧
      wr.ownsRow (w1.heap.size + 2) 5 1 vw k (bytsV ((L.sw.take k).map (fun b => if b then 43 else 0))) /\ wr.ownsRow (w1.heap.size + 2) 4 1 vf k (z0t (List.replicate k false)) ∧
      wr.ownsRow (w1.heap.size + 2) 3 1 vd k (intsV (List.replicate k 0)) /\ wr.ownsRow (w1.heap.size + 2) 161 6 (.slice ah L.rts.length ch) L.rts.length (List.replicate L.rts.length z3v).flatten) (fun i _ => L.sw.length - (intOf i).toNat)
    case atStart => exact ⟨0, _, _, _, rfl, Nat.zero_le _, uh HM, World.ownsRow_nil _ _ _ _, World.ownsRow_nil _ _ _ _, World.ownsRow_nil _ _ _ _, uh HLN⟩
    case round =>
     clear HM HLN z0 z1 z2 z3 z4 z5 y3 y4 y5 y6 y7 y8 y9 y10 y11 f6 f7 f8 f9 f10 f11 qp qs
     obtain ⟨k, vw, vf, vd, rfl, hk, hM, hw, hf, hd, hln⟩ := hrel
     have hmm2 := hM.2.2.size
     have HM := zh hM
     have HLN := zh hln
     obtain ⟨⟨z0, z1, z2, z3, z4, z5⟩, -, qp⟩ := six0 hM.1
     obtain ⟨⟨y3, y4, y5, y6, y7, y8, y9, y10, y11⟩, ⟨f6, f7, f8, f9, f10, f11⟩, qs⟩ := box12 hM.2.1
     by_cases hlt : k < L.sw.length
     ·have l1 : (k : Int) < L.sw.length := by omega
      obtain ⟨gx, ox, hax, hgx, csx, -, hCx, hcx⟩ := uh HX k hlt
      subst hax
      unfold CBool at hCx
      subst hCx
      have x0 := hcx 0 (by omega)
      rw [<- hM.2.2.cell (p := ⟨gx, _, none⟩) hgx] at x0
      simp at x0
      obtain ⟨aw, cw, rfl⟩ := z03 hw
      obtain ⟨af, cf, rfl⟩ := z03 hf
      obtain ⟨ad, cd, rfl⟩ := z03 hd
      have HWN := zh (show bytsV ((L.sw.take (k + 1)).map (fun b => if b then 43 else 0)) = bytsV ((L.sw.take k).map (fun b => if b then 43 else 0)) ++ [.int .u8 ((if L.sw[k] then 43 else 0 : Nat) : Int)] by
       rw [z1a _ _ _ hlt]; exact z1j _ _)
      clear hcx hM
      generalize L.sw[k] = b at *
      obtain ⟨x, hx⟩ : ∃ x : Nat, x = if b then 43 else 0 := ⟨_, rfl⟩
      rw [<- hx] at HWN
      cases b
      all_goals
       simp only [Bool.false_eq_true, if_false, if_true] at hx
       subst hx
       go_wp2_with (first
        | (at_builtin; refine wpList_append_own _ rfl _ _ 75 rfl (w1.heap.size + 2) 5 i2 (.int .u8 0) 1 1 Tryz.underlying75 (uh HIB).1 (uh HIB).2.1 (uh HIB).2.2.1 (uh HIB).2.2.2 rfl (by decide) _ _ _ rfl (hw.alloc _) ⟨wr.heap.size, 0, none⟩ 1 1 [_] rfl rfl (z0o _ _ _) (z0a rfl) (by unfold maxLen; omega) (by omega) (by first | (simp; omega) | (simp [World.setCell]; omega)) ?_; intro v4 w4 hown4 hgrow4 _; have HM4 := zh ((uh HM).append hw hgrow4 (by decide) (by decide)); obtain ⟨⟨r3, r4, r5, r6, r7, r8, r9, r10, r11⟩, ⟨g6, g7, g8, g9, g10, g11⟩, qs4⟩ := box12 (uh HM4).2.1; obtain ⟨aw', cw', hv'⟩ := z03 hown4; subst hv'; have HM5 := zh ((uh HM4).store (.slice aw' (k + 1) cw')).2.1; have kk5 := fun e (n1 : 5 ≠ e) (n2 : 159 ≠ e) => (z07 hw hgrow4 n1).trans (Keeps.setCell ⟨w1.heap.size + 1, 7, none⟩ (.slice aw' (k + 1) cw') (uh HM4).typed n2); have hf5 := z01 hf (kk5 _ (by decide) (by decide)); have hd5 := z01 hd (kk5 _ (by decide) (by decide)); have hl5 := z01 hln (kk5 _ (by decide) (by decide)); have hw5 := z01 hown4 (Keeps.setCell ⟨w1.heap.size + 1, 7, none⟩ (.slice aw' (k + 1) cw') (uh HM4).typed (by decide)))
        | (at_builtin; refine wpList_append_own _ rfl _ _ 49 rfl (w1.heap.size + 2) 4 i3 (.bool false) 1 1 Tryz.underlying49 (uh HIO).1 (uh HIO).2.1 (uh HIO).2.2.1 (uh HIO).2.2.2 rfl (by decide) _ _ _ rfl (hf5.alloc _) ⟨w4.heap.size, 0, none⟩ 1 1 [_] rfl rfl (z0h _ [_] _ _ (by simp [World.setCell])) (z0a rfl) (by unfold maxLen; omega) (by omega) (by first | (simp; omega) | (simp [World.setCell]; omega)) ?_; intro v6 w6 hown6 hgrow6 _; have HM6 := zh ((uh HM5).append hf5 hgrow6 (by decide) (by decide)); obtain ⟨⟨p3, p4, p5, p6, p7, p8, p9, p10, p11⟩, ⟨o6, o7, o8, o9, o10, o11⟩, qs6⟩ := box12 (uh HM6).2.1; obtain ⟨af', cf', hv6⟩ := z03 hown6; subst hv6; have HM7 := zh ((uh HM6).store (.slice af' (k + 1) cf')).2.2.1; have kk7 := fun e (n1 : 4 ≠ e) (n2 : 159 ≠ e) => (z07 hf5 hgrow6 n1).trans (Keeps.setCell ⟨w1.heap.size + 1, 8, none⟩ (.slice af' (k + 1) cf') (uh HM6).typed n2); have hw7 := z01 hw5 (kk7 _ (by decide) (by decide)); have hd7 := z01 hd5 (kk7 _ (by decide) (by decide)); have hl7 := z01 hl5 (kk7 _ (by decide) (by decide)); have hf7 := z01 hown6 (Keeps.setCell ⟨w1.heap.size + 1, 8, none⟩ (.slice af' (k + 1) cf') (uh HM6).typed (by decide)))
        | (at_builtin; refine wpList_append_own _ rfl _ _ 50 rfl (w1.heap.size + 2) 3 i4 (.int .i64 0) 1 8 Tryz.underlying50 (uh HII).1 (uh HII).2.1 (uh HII).2.2.1 (uh HII).2.2.2 rfl (by decide) _ _ _ rfl (hd7.alloc _) ⟨w6.heap.size, 0, none⟩ 1 1 [_] rfl rfl (z0h _ [_] _ _ (by simp [World.setCell])) (z0a rfl) (by unfold maxLen; omega) (by omega) (by first | (simp; omega) | (simp [World.setCell]; omega)) ?_; intro v8 w8 hown8 hgrow8 _; have HM8 := zh ((uh HM7).append hd7 hgrow8 (by decide) (by decide)); obtain ⟨⟨s3, s4, s5, s6, s7, s8, s9, s10, s11⟩, ⟨t6, t7, t8, t9, t10, t11⟩, qs8⟩ := box12 (uh HM8).2.1; obtain ⟨ad', cd', hv8⟩ := z03 hown8; subst hv8; have HM9 := zh ((uh HM8).store (.slice ad' (k + 1) cd')).2.2.2; have kk9 := fun e (n1 : 3 ≠ e) (n2 : 159 ≠ e) => (z07 hd7 hgrow8 n1).trans (Keeps.setCell ⟨w1.heap.size + 1, 9, none⟩ (.slice ad' (k + 1) cd') (uh HM8).typed n2); have hw9 := z01 hw7 (kk9 _ (by decide) (by decide)); have hf9 := z01 hf7 (kk9 _ (by decide) (by decide)); have hl9 := z01 hl7 (kk9 _ (by decide) (by decide)); have hd9 := z01 hown8 (Keeps.setCell ⟨w1.heap.size + 1, 9, none⟩ (.slice ad' (k + 1) cd') (uh HM8).typed (by decide))))
       exact ⟨⟨k + 1, _, _, _, by go_num, by omega, uh HM9, by rw [uh HWN]; exact hw9, by rw [boolsV_rep]; exact hf9, by rw [intsV_rep]; exact hd9, hl9⟩, by simp [intOf]; omega⟩
     ·obtain rfl : k = L.sw.length := by omega
      rw [List.take_length] at hw
      have hW := Byts.ofOwn hw (by simp)
      have hFl := Bools.ofOwn hf (by simp)
      have hD := Ints.ofOwn hd (by simp)
      have hN : RLns wr (.slice ah L.rts.length ch) (List.replicate L.rts.length RLn0) := SlAt.ofOwnN hln (all2_rep (ln0 wr) _) (fun c hc => by rw [List.eq_of_mem_replicate hc]; rfl) (by simp)
      have HA := zh (And.intro hW (And.intro hFl (And.intro hD hN)))
      have HOW := zh (And.intro hw (And.intro hf (And.intro hd hln)))
      obtain ⟨aw, cw, rfl⟩ := z03 hw
      obtain ⟨af, cf, rfl⟩ := z03 hf
      obtain ⟨ad, cd, rfl⟩ := z03 hd
      clear hw hf hd hln hW hFl hD hN hM HLN
      have hmk := fun (wz : World) => run_make (P := Tryz.prog) wz 50 3 i4 (.int .i64 0) Tryz.underlying50 (uh HII).1 (uh HII).2.1 .i64 .i64 (L.tns.length : Int) (L.tns.length : Int) (by omega) (by omega) (by rw [(uh HII).2.2.2]; omega) (by omega)
      rw [(uh HII).2.2.1] at hmk
      simp only [Int.toNat_natCast, Nat.mul_one] at hmk
      go_wp2
      go_ret2
      obtain ⟨u, hu⟩ : ∃ u : Value, u = .slice (some ⟨wr.heap.size, 0, none⟩) L.tns.length L.tns.length := ⟨_, rfl⟩
      obtain ⟨mk, hmk'⟩ : ∃ mk : Obj, mk = .cells (madeCells #[.int .i64 0] L.tns.length) 3 := ⟨_, rfl⟩
      have hsz : (wr.setCell ⟨w1.heap.size + 1, 10, none⟩ u).heap.size = wr.heap.size := by simp [World.setCell]
      have hbk0 := z08 (j := 10) u (uh HM).2.1
      have hbk := (Below.heap_alloc (wr.setCell ⟨w1.heap.size + 1, 10, none⟩ u) mk _ (by rw [hsz]; exact qs)).trans hbk0
      have kk := fun e (n2 : 159 ≠ e) => (Keeps.setCell ⟨w1.heap.size + 1, 10, none⟩ u (uh HM).typed n2).trans (Keeps.alloc e (wr.setCell ⟨w1.heap.size + 1, 10, none⟩ u) mk)
      have hbw := ((uh HM).2.2.setCell (p := ⟨w1.heap.size + 1, 10, none⟩) (by simp) u).alloc (by rw [hsz]; exact hmm2) mk
      obtain ⟨_, _, _, he, hH, hR, hT⟩ := (uh HL).below hbw
      simp only [Value.agg.injEq, Array.mk.injEq, List.cons.injEq, and_true, true_and] at he
      obtain ⟨rfl, rfl, rfl⟩ := he
      obtain ⟨hW, hFl, hD, hN⟩ := uh HA
      have hI := ints_made (wr.setCell ⟨w1.heap.size + 1, 10, none⟩ u) L.tns.length (by unfold maxLen; omega)
      rw [hsz, <- hu, <- hmk'] at hI
      rw [<- hu, <- hmk']
      have hva := row_made (wr.setCell ⟨w1.heap.size + 1, 10, none⟩ u) (w1.heap.size + 2) L.tns.length (by rw [hsz]; omega) (by unfold maxLen; omega)
      rw [hsz, <- hu, <- hmk'] at hva
      have hdb : ∀ b, (Value.slice ad L.sw.length cd).ownBlock = some b -> u.ownBlock ≠ some b := by
       intro b hb1 hb2
       have h1 := ((uh HOW).2.2.1.lt b hb1).2
       rw [hu] at hb2
       simp only [Value.ownBlock, Option.some.injEq] at hb2
       omega
      refine ⟨.inr ⟨uh H0, w1.heap.size + 1, rfl, by omega, ⟨_, _, _, _, _, _, _, _, _, hbk, hH, hR, hT, hN.keep (kk _ (by decide)) (kk _ (by decide)), hW.keep (kk _ (by decide)), hFl.keep (kk _ (by decide)), hD.keep (kk _ (by decide)), hI, SlAt.nil _ _ _ _⟩, ⟨w1, _, _, _, _, _, _, _, _, hbs, uh HLL, hbw, rfl, hbk, z01 (uh HOW).2.2.2 (kk _ (by decide)), z01 (uh HOW).1 (kk _ (by decide)), z01 (uh HOW).2.1 (kk _ (by decide)), z01 (uh HOW).2.2.1 (kk _ (by decide)), hva, hdb⟩⟩, (uh HB).trans (hbw.mono hbs)⟩
 ·have hz : ((E.1 : Int) != 0) = true := by simp [h0]
  have H0 := zh h0
  clear hL hb h0
  go_wp2
  go_ret2
  exact ⟨.inl ⟨uh H0, rfl⟩, (uh HB).alloc hbs _⟩
end Go.Proofs.YtkbpocecbcaiiaaGreatDoor
