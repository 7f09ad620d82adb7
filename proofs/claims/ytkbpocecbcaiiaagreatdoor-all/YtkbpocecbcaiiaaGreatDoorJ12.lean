import Derived.Test.YtkbpocecbcaiiaaGreatDoorJ9
namespace Go.Proofs.YtkbpocecbcaiiaaGreatDoor
open Go.RowKit
def RBx.lateF (C : RBx) (f : Fr) (s : Nat) : Nat :=
 if C.L.sw.getD s false && C.heldB s && !C.failed.getD s false && f.rep.getD s 0 != C.wanted.getD s 0 then C.late.getD s 0 + 1 else 0
def RBx.watch1 (C : RBx) (f : Fr) (s : Nat) : RBx :=
 if C.lateF f s = C.L.T then { C with late := (C.late.set s (C.lateF f s)).set s 0, failed := C.failed.set s true } else { C with late := C.late.set s (C.lateF f s) }
def RBx.watchN (C : RBx) (f : Fr) : Nat -> RBx
 | 0 => C
 | k + 1 => (C.watchN f k).watch1 f k
def RBx.watch (C : RBx) (f : Fr) : RBx := C.watchN f C.L.sw.length
theorem watch1_pres (C : RBx) (f : Fr) (s : Nat) : (C.watch1 f s).L = C.L /\ (C.watch1 f s).lines = C.lines /\ (C.watch1 f s).wanted = C.wanted /\ (C.watch1 f s).sta = C.sta /\ (C.watch1 f s).waits = C.waits ∧
  (C.watch1 f s).failed.length = C.failed.length /\ (C.watch1 f s).late.length = C.late.length := by
 unfold RBx.watch1
 split <;> simp
theorem watchN_pres (C : RBx) (f : Fr) (k : Nat) : (C.watchN f k).L = C.L /\ (C.watchN f k).lines = C.lines /\ (C.watchN f k).wanted = C.wanted /\ (C.watchN f k).sta = C.sta /\ (C.watchN f k).waits = C.waits ∧
  (C.watchN f k).failed.length = C.failed.length /\ (C.watchN f k).late.length = C.late.length := by
 induction k with
 | zero => exact ⟨rfl, rfl, rfl, rfl, rfl, rfl, rfl⟩
 | succ k ih =>
  have h := watch1_pres (C.watchN f k) f k
  exact ⟨h.1.trans ih.1, h.2.1.trans ih.2.1, h.2.2.1.trans ih.2.2.1, h.2.2.2.1.trans ih.2.2.2.1, h.2.2.2.2.1.trans ih.2.2.2.2.1, h.2.2.2.2.2.1.trans ih.2.2.2.2.2.1, h.2.2.2.2.2.2.trans ih.2.2.2.2.2.2⟩
theorem z0s {w : World} {b : Nat} {e : TypeId} {sz : Nat} {v : Value} {n : Nat} {xs : List Value} (h : w.ownsRow b e sz v n xs) (hn : 0 < n) : ∃ g cap, v = .slice (some ⟨g, 0, none⟩) n cap /\ n <= cap /\ cap <= maxLen /\ g < w.heap.size := by
 rcases h.2 with ⟨-, h0⟩ | ⟨g, cap, cur, hv, hg, hh, h1, h2, -⟩
 ·omega
 ·exact ⟨g, cap, hv, h1, h2, z0f hh⟩
theorem z2e {w : World} {a b : Nat} {e e' : TypeId} (ha : Typed w a e) (hb : Typed w b e') (h : e ≠ e') : a ≠ b := by
 rintro rfl
 obtain ⟨c1, f1, h1⟩ := ha
 obtain ⟨c2, f2, h2⟩ := hb
 rw [h1] at h2
 simp at h2
 exact h h2.2.1
set_option maxRecDepth 100000 in
set_option maxHeartbeats 8000000 in
theorem rwatch_any (R P : Nat -> Prop) (g : Nat) (C : RBx) (vh vr vt vl vw vf vd va vq : Value) (ms : List Value) (vfr : Value) (f : Fr) (w : World) (h : RM w R g C vh vr vt vl vw vf vd va vq ms) (hf : FrIn P w vfr f)
  (hP : ∀ b, P b -> vd.ownBlock ≠ some b /\ vf.ownBlock ≠ some b)
  (hs : C.L.sw.length <= 1000) (hwl : C.wanted.length = C.L.sw.length) (hfl : C.failed.length = C.L.sw.length) (hdl : C.late.length = C.L.sw.length) (hpl : f.rep.length = C.L.sw.length)
  (hl : C.lines.length <= C.L.rts.length) (hr1 : C.L.rts.length <= 1000) (hgo : ∀ x, x ∈ C.lines -> x.gone <= 1000) (hlb : ∀ x, x ∈ C.late -> x <= 1000) :
  Calls Tryz.prog 99 #[.pointer (some ⟨g, 0, none⟩), vfr] w fun e w' => e = .returned (.tuple #[]) /\ RM w' R g (C.watch f) vh vr vt vl vw vf vd va vq ms /\ FrIn P w' vfr f /\ Only (fun b => vd.ownBlock = some b \/ vf.ownBlock = some b) w w' := by
 have hf0 := hf.at
 obtain ⟨vo, vp, rfl, hO, hPr⟩ := hf0
 obtain ⟨ao, co, rfl, -⟩ := SlAt.open hO
 obtain ⟨ap, cp, rfl, -⟩ := SlAt.open hPr
 have hH := (h.plan.2 w (fun _ _ => rfl)).1
 obtain ⟨ah, ch, rfl, -⟩ := SlAt.open hH
 clear hO hPr hH
 unfold RBx.watch
 obtain ⟨n, hn⟩ : ∃ n, n = C.L.sw.length := ⟨_, rfl⟩
 have HLN := zh (And.intro hwl (And.intro hfl (And.intro hdl hpl)))
 have HSE := zh hf
 have HRM := zh h
 have HPP := zh hP
 have HGO := zh hgo
 have HLB := zh hlb
 have HW0 := zh (z02 w (.cells #[.slice ao f.occ.length co, .slice ap f.rep.length cp, .string f.cmds] 163))
 have HFB := zh (heap_alloc_new w (.cells #[.slice ao f.occ.length co, .slice ap f.rep.length cp, .string f.cmds] 163))
 have HFW := zh (show ∀ b, (vd.ownBlock = some b \/ vf.ownBlock = some b) -> b < w.heap.size from fun b hb => by
  rcases hb with hb | hb
  ·exact (h.late.lt b hb).2
  ·exact (h.failed.lt b hb).2)
 clear hP hgo hlb hwl hfl hdl hpl h hf
 go_enter Tryz.func99, Tryz.ntmps99
 go_wp2
 go_loopw [4] (fun i wr => ∃ k : Nat, i = .int .i64 k /\ k <= n /\ RM wr R g (C.watchN f k) (.slice ah C.L.sw.length ch) vr vt vl vw vf vd va vq ms /\ FrIn P wr (.agg #[.slice ao f.occ.length co, .slice ap f.rep.length cp, .string f.cmds]) f ∧
   Only (fun b => vd.ownBlock = some b \/ vf.ownBlock = some b) w wr /\ wr.heap[w.heap.size]? = some (.cells #[.slice ao f.occ.length co, .slice ap f.rep.length cp, .string f.cmds] 163 (0, 0)) /\ (∀ x, x ∈ (C.watchN f k).late -> x <= 1000 + k)) (fun i _ => n - (intOf i).toNat)
 case atStart =>
  exact ⟨0, rfl, Nat.zero_le _, (uh HRM).below (uh HW0), (uh HSE).below (uh HW0), Only.of_below (uh HW0), uh HFB, fun x hx => by have := uh HLB x hx; omega⟩
 case round =>
  clear HRM HSE HW0 HFB
  obtain ⟨k, rfl, hk, hM, hFr, hO, hfb, hlk⟩ := hrel
  obtain ⟨p1, p2, p3, p4, p5, p6, p7⟩ := watchN_pres C f k
  obtain ⟨D, hD⟩ : ∃ D, D = C.watchN f k := ⟨_, rfl⟩
  rw [<- hD] at hM hlk p1 p2 p3 p4 p5 p6 p7
  have HM := zh hM
  have HFr := zh hFr
  have HO := zh hO
  have HLK := zh hlk
  obtain ⟨⟨y0, y1, y2⟩, -, qf⟩ := tri0 hfb
  have HFB := zh hfb
  obtain ⟨⟨q3, q4, q5, q6, q7, q8, q9, q10, q11⟩, -, qg⟩ := box12 hM.box
  have q0 := z0c hM.box 0
  simp at q0
  clear hfb hlk hO
  by_cases hlt : k < n
  ·have hHD := rheld_any g D k wr hM.at (by rw [p1, p2]; exact hl) (by rw [p1]; exact hr1) (by rw [p2]; exact uh HGO)
   have HHD := zh hHD
   obtain ⟨l1, l2, l3, l4⟩ := uh HLN
   have ew : D.wanted.length = n := by rw [p3, l1, hn]
   have ef : D.failed.length = n := by rw [p6, l2, hn]
   have ed : D.late.length = n := by rw [p7, l3, hn]
   have es : D.L.sw.length = n := by rw [p1, hn]
   have er : f.rep.length = n := by rw [l4, hn]
   obtain ⟨gw, cw, rfl, hw1, hw2, hgw⟩ := z0s hM.wanted (by omega)
   obtain ⟨gf, cf, rfl, hf1, hf2, hgf⟩ := z0s hM.failed (by omega)
   obtain ⟨gd, cd, rfl, hd1, hd2, hgd⟩ := z0s hM.late (by omega)
   unfold maxLen at hw2 hf2 hd2
   have hkw : k < D.wanted.length := by omega
   have hkf : k < D.failed.length := by omega
   have hkd : k < D.late.length := by omega
   have hks : k < D.L.sw.length := by omega
   have hkr : k < f.rep.length := by omega
   have xw : wr.cell? ⟨gw, k, none⟩ = some (.int .u8 (D.wanted[k] : Nat)) := by rw [hM.wanted.cellAt k (by omega)]; simp [bytsV, hkw]
   have xf : wr.cell? ⟨gf, k, none⟩ = some (.bool D.failed[k]) := by rw [hM.failed.cellAt k (by omega)]; simp [z0t, hkf]
   have xd : wr.cell? ⟨gd, k, none⟩ = some (.int .i64 (D.late[k] : Nat)) := by rw [hM.late.cellAt k (by omega)]; simp [intsV, hkd]
   have zd := hM.late.frozenAt k
   have hlb1 := uh HLK _ (List.getElem_mem hkd)
   obtain ⟨ah', ch', he, -, hm1, h3⟩ := SlAt.open (hM.plan.2 wr (fun _ _ => rfl)).1
   rw [p1] at he
   simp only [Value.slice.injEq, true_and] at he
   obtain ⟨rfl, rfl⟩ := he
   obtain ⟨gs, os, hah, hgs, css, -, hCs, hcs⟩ := h3 k hks
   subst hah
   unfold CBool at hCs
   subst hCs
   have xs := hcs 0 (by omega)
   simp at xs
   obtain ⟨vo', vp', he, -, hPr⟩ := hFr.at
   simp only [Value.agg.injEq, Array.mk.injEq, List.cons.injEq, and_true] at he
   obtain ⟨-, rfl⟩ := he
   obtain ⟨ap', cp', he, -, hm2, r3⟩ := SlAt.open hPr
   simp only [Value.slice.injEq, true_and] at he
   obtain ⟨rfl, rfl⟩ := he
   obtain ⟨gp, op, hap, hgp, csp, -, hCp, hcp⟩ := r3 k hkr
   subst hap
   unfold CByte at hCp
   subst hCp
   have xp := hcp 0 (by omega)
   simp at xp
   have HLF := zh (show D.lateF f k = if D.L.sw[k] && D.heldB k && !D.failed[k] && f.rep[k] != D.wanted[k] then D.late[k] + 1 else 0 by
    unfold RBx.lateF
    rw [z0b _ _ _ hks, z0b _ _ _ hkf, z0b _ _ _ hkr, z0b _ _ _ hkw, z0b _ _ _ hkd])
   have HNX := zh (show C.watchN f (k + 1) = D.watch1 f k by rw [hD]; rfl)
   clear hD
   have m1 : (k : Int) < C.L.sw.length := by omega
   have m2 : (k : Int) < D.wanted.length := by omega
   have m3 : (k : Int) < D.failed.length := by omega
   have m4 : (k : Int) < D.late.length := by omega
   have m5 : (k : Int) < f.rep.length := by omega
   have HDL := zh (And.intro ew (And.intro ef (And.intro ed p1)))
   clear ew ef ed es er h3 r3 hcs hcp hPr hHD hM hFr l1 l2 l3 l4 p2 p3 p4 p5 p6 p7 p1 hn
   generalize D.L.sw[k] = bsw at *
   generalize D.heldB k = bhd at *
   obtain ⟨bfa, hfa⟩ : ∃ b, D.failed[k] = b := ⟨_, rfl⟩
   rw [hfa] at xf HLF
   have HFA := zh (show D.failed.getD k false = bfa by rw [z0b _ _ _ hkf]; exact hfa)
   clear hfa
   generalize f.rep[k] = re at *
   generalize D.wanted[k] = wa at *
   generalize D.late[k] = la at *
   have HDI := zh (And.intro hkf (And.intro hkd hkw))
   clear hkf hkd hkw hks hkr
   generalize hnf : D.failed.length = nf at *
   generalize hnw : D.wanted.length = nw at *
   generalize hnd : D.late.length = nd at *
   have HNE := zh (And.intro hnf (And.intro hnw hnd))
   clear hnf hnw hnd
   obtain ⟨of, hof⟩ : ∃ of : Nat, of = 0 := ⟨0, rfl⟩
   have q8' : wr.cell? ⟨g, 8, none⟩ = some (.slice (some ⟨gf, of, none⟩) nf cf) := by rw [hof]; exact q8
   have q7' : wr.cell? ⟨g, 7, none⟩ = some (.slice (some ⟨gw, of, none⟩) nw cw) := by rw [hof]; exact q7
   have xf' : wr.cell? ⟨gf, of + k, none⟩ = some (.bool bfa) := by rw [hof, Nat.zero_add]; exact xf
   have xw' : wr.cell? ⟨gw, of + k, none⟩ = some (.int .u8 (wa : Nat)) := by rw [hof, Nat.zero_add]; exact xw
   clear hof q7 q8 xf xw
   have hcase : (bsw = false \/ (bsw = true /\ bhd = false) \/ (bsw = true /\ bhd = true /\ bfa = true) \/ (bsw = true /\ bhd = true /\ bfa = false /\ re = wa)) \/ (bsw = true /\ bhd = true /\ bfa = false /\ re ≠ wa) := by
    cases bsw <;> cases bhd <;> cases bfa <;> simp <;> omega
   rcases hcase with hcase | ⟨rfl, rfl, rfl, hrw⟩
   ·have HLX := zh (show D.lateF f k = 0 by
     rw [uh HLF, if_neg]
     rcases hcase with rfl | ⟨rfl, rfl⟩ | ⟨rfl, rfl, rfl⟩ | ⟨rfl, rfl, rfl, rfl⟩ <;> simp)
    rcases hcase with rfl | ⟨rfl, rfl⟩ | ⟨rfl, rfl, rfl⟩ | ⟨rfl, rfl, rfl, rfl⟩
    all_goals
     go_wp2_with (go_at_call 143; refine (uh HHD).mono ?_; rintro e w' ⟨rfl, rfl⟩)
     go_quiet (fail)
     go_wp2
     generalize hW1 : World.setCell _ _ _ = W1
     have hR1 : RM W1 R g { D with late := D.late.set k 0 } (.slice (some ⟨gs, os, none⟩) C.L.sw.length ch) vr vt vl (.slice (some ⟨gw, 0, none⟩) nw cw) (.slice (some ⟨gf, 0, none⟩) nf cf) (.slice (some ⟨gd, 0, none⟩) nd cd) va vq ms := by
      rw [<- hW1]
      exact ((uh HM).below (below_drewN (Below.refl _ _) _)).setLate (uh HNE).2.2.symm k 0
     have hO1 : Only (fun b => (Value.slice (some ⟨gd, 0, none⟩) nd cd).ownBlock = some b \/ (Value.slice (some ⟨gf, 0, none⟩) nf cf).ownBlock = some b) w' W1 := by
      rw [<- hW1]
      exact (Only.of_below (below_drewN (Below.refl _ _) _)).trans (Only.setCell (a := ⟨gd, k, none⟩) (Or.inl rfl) _)
     have HR1 := zh hR1
     have hl1 : W1.ownsRow 0 3 1 (.slice (some ⟨gd, 0, none⟩) nd cd) nd (intsV (D.late.set k 0)) := by have := hR1.late; simp only [List.length_set, (uh HNE).2.2] at this; exact this
     have HO1 := zh hO1
     have xd1 : W1.cell? ⟨gd, k, none⟩ = some (.int .i64 (0 : Nat)) := by
      have hkd := (uh HDI).2.1
      have := hl1.cellAt k (by omega)
      have hkd' : k < D.late.length := by rw [(uh HNE).2.2]; exact (uh HDI).2.1
      rw [this]; simp [intsV, hkd']
     have hf9 : W1.ownsRow 0 4 1 (.slice (some ⟨gf, 0, none⟩) nf cf) nf (z0t D.failed) := by have := hR1.failed; simp only [(uh HNE).1] at this; exact this
     have zf1 := hf9.frozenAt k
     have zd1 := hl1.frozenAt k
     have xf1 : W1.cell? ⟨gf, k, none⟩ = some (.bool (D.failed.getD k false)) := by
      have hkf := (uh HDI).1
      have := hf9.cellAt k (by omega)
      rw [this]
      have hkf' : k < D.failed.length := by rw [(uh HNE).1]; exact hkf
      rw [z0b _ _ _ hkf']
      simp [z0t, hkf']
     have t1 := z0g (k := gd) hl1 rfl
     have t2 := z0g (k := gf) hf9 rfl
     have t3 : Typed W1 g 159 := ⟨_, _, hR1.box⟩
     have n1 : g ≠ gd := z2e t3 t1 (by decide)
     have n2 : g ≠ gf := z2e t3 t2 (by decide)
     have n3 : gf ≠ gd := z2e t2 t1 (by decide)
     have n4 := Ne.symm n1
     have n5 := Ne.symm n2
     have n6 := Ne.symm n3
     clear q0 q3 q4 q5 q6 q7' q8' q9 q10 q11 xd xf' xw' zd t1 t2 t3
     obtain ⟨⟨q3, q4, q5, q6, q7, q8, q9, q10, q11⟩, -, qg1⟩ := box12 hR1.box
     have q0 := z0c hR1.box 0
     simp at q0
     clear hl1 hf9 hR1 hO1
     by_cases hT : (0 : Nat) = D.L.T
     ·have bT : (((0 : Nat) : Int) == (D.L.T : Int)) = true := by simp [hT]
      have HFIN := zh (show C.watchN f (k + 1) = { D with late := (D.late.set k 0).set k 0, failed := D.failed.set k true } by
       rw [uh HNX]
       unfold RBx.watch1
       rw [uh HLX, if_pos hT])
      clear hT
      go_quiet (fail)
      go_wp2
      have hRM2 := fun n => (((uh HR1).below (below_drewN (Below.refl _ _) n)).setFailed (uh HNE).1.symm k true).setLate (by simp [(uh HNE).2.2]) k 0
      have hO2 := fun n => (uh HO1).trans (((Only.of_below (below_drewN (Below.refl W1.heap.size W1) n)).trans (Only.setCell (a := ⟨gf, k, none⟩) (Or.inr rfl) (.bool true))).trans (Only.setCell (a := ⟨gd, k, none⟩) (Or.inl rfl) (.int .i64 0)))
      refine ⟨⟨k + 1, by go_num, by omega, ?_, (uh HFr).only (hO2 _) (fun b hb hh => ?_), (uh HO).trans (hO2 _), ?_, ?_⟩, by simp [intOf]; omega⟩
      ·rw [uh HFIN]; exact hRM2 _
      ·rcases hh with hh | hh
       ·exact (uh HPP b hb).1 hh
       ·exact (uh HPP b hb).2 hh
      ·rw [(hO2 _).block _ qf (fun hh => by have := uh HFW _ hh; omega)]; exact uh HFB
      ·rw [uh HFIN]
       intro y hy
       rcases List.mem_or_eq_of_mem_set hy with h | h
       ·rcases List.mem_or_eq_of_mem_set h with h | h
        ·have := uh HLK y h; omega
        ·omega
       ·omega
     ·have bT : (((0 : Nat) : Int) == (D.L.T : Int)) = false := by simp; omega
      have HFIN := zh (show C.watchN f (k + 1) = { D with late := D.late.set k 0 } by
       rw [uh HNX]
       unfold RBx.watch1
       rw [uh HLX, if_neg hT])
      clear hT
      go_quiet (fail)
      go_wp2
      have hRM2 := fun n => (uh HR1).below (below_drewN (Below.refl _ _) n)
      have hO2 := fun n => (uh HO1).trans (Only.of_below (below_drewN (Below.refl W1.heap.size W1) n))
      refine ⟨⟨k + 1, by go_num, by omega, ?_, (uh HFr).only (hO2 _) (fun b hb hh => ?_), (uh HO).trans (hO2 _), ?_, ?_⟩, by simp [intOf]; omega⟩
      ·rw [uh HFIN]; exact hRM2 _
      ·rcases hh with hh | hh
       ·exact (uh HPP b hb).1 hh
       ·exact (uh HPP b hb).2 hh
      ·rw [(hO2 _).block _ qf (fun hh => by have := uh HFW _ hh; omega)]; exact uh HFB
      ·rw [uh HFIN]
       intro y hy
       rcases List.mem_or_eq_of_mem_set hy with h | h
       ·have := uh HLK y h; omega
       ·omega
   ·obtain ⟨la1, hla1⟩ : ∃ l : Nat, (la : Int) + 1 = l := ⟨la + 1, by omega⟩
    have HLX := zh (show D.lateF f k = la1 by
     rw [uh HLF, if_pos (by simp [hrw])]; omega)
    have hlb2 : la1 <= 1000 + (k + 1) := by omega
    have b3 : ((re : Int) != wa) = true := by simp; omega
    have hwr1 : IntKind.i64.wrap ((la : Int) + 1) = (la1 : Int) := by rw [hla1]; exact Go.IntWalk.i64_in _ (by omega)
    go_wp2_with (go_at_call 143; refine (uh HHD).mono ?_; rintro e w' ⟨rfl, rfl⟩)
    go_quiet (fail)
    go_wp2
    go_region
    all_goals
     go_wp2
     generalize hW1 : World.setCell _ _ _ = W1
     have hR1 : RM W1 R g { D with late := D.late.set k la1 } (.slice (some ⟨gs, os, none⟩) C.L.sw.length ch) vr vt vl (.slice (some ⟨gw, 0, none⟩) nw cw) (.slice (some ⟨gf, 0, none⟩) nf cf) (.slice (some ⟨gd, 0, none⟩) nd cd) va vq ms := by
      rw [<- hW1]
      first
       | exact ((uh HM).below (below_drewN (Below.refl _ _) _)).setLate (uh HNE).2.2.symm k la1
       | exact ((uh HM).below ((below_drewN (Below.refl _ _) _).drew)).setLate (uh HNE).2.2.symm k la1
     have hO1 : Only (fun b => (Value.slice (some ⟨gd, 0, none⟩) nd cd).ownBlock = some b \/ (Value.slice (some ⟨gf, 0, none⟩) nf cf).ownBlock = some b) w' W1 := by
      rw [<- hW1]
      first
       | exact (Only.of_below (below_drewN (Below.refl _ _) _)).trans (Only.setCell (a := ⟨gd, k, none⟩) (Or.inl rfl) _)
       | exact (Only.of_below ((below_drewN (Below.refl _ _) _).drew)).trans (Only.setCell (a := ⟨gd, k, none⟩) (Or.inl rfl) _)
     have HR1 := zh hR1
     have hl1 : W1.ownsRow 0 3 1 (.slice (some ⟨gd, 0, none⟩) nd cd) nd (intsV (D.late.set k la1)) := by have := hR1.late; simp only [List.length_set, (uh HNE).2.2] at this; exact this
     have HO1 := zh hO1
     have xd1 : W1.cell? ⟨gd, k, none⟩ = some (.int .i64 (la1 : Nat)) := by
      have hkd := (uh HDI).2.1
      have := hl1.cellAt k (by omega)
      have hkd' : k < D.late.length := by rw [(uh HNE).2.2]; exact (uh HDI).2.1
      rw [this]; simp [intsV, hkd']
     have hf9 : W1.ownsRow 0 4 1 (.slice (some ⟨gf, 0, none⟩) nf cf) nf (z0t D.failed) := by have := hR1.failed; simp only [(uh HNE).1] at this; exact this
     have zf1 := hf9.frozenAt k
     have zd1 := hl1.frozenAt k
     have xf1 : W1.cell? ⟨gf, k, none⟩ = some (.bool (D.failed.getD k false)) := by
      have hkf := (uh HDI).1
      have := hf9.cellAt k (by omega)
      rw [this]
      have hkf' : k < D.failed.length := by rw [(uh HNE).1]; exact hkf
      rw [z0b _ _ _ hkf']
      simp [z0t, hkf']
     have t1 := z0g (k := gd) hl1 rfl
     have t2 := z0g (k := gf) hf9 rfl
     have t3 : Typed W1 g 159 := ⟨_, _, hR1.box⟩
     have n1 : g ≠ gd := z2e t3 t1 (by decide)
     have n2 : g ≠ gf := z2e t3 t2 (by decide)
     have n3 : gf ≠ gd := z2e t2 t1 (by decide)
     have n4 := Ne.symm n1
     have n5 := Ne.symm n2
     have n6 := Ne.symm n3
     clear q0 q3 q4 q5 q6 q7' q8' q9 q10 q11 xd xf' xw' zd t1 t2 t3
     obtain ⟨⟨q3, q4, q5, q6, q7, q8, q9, q10, q11⟩, -, qg1⟩ := box12 hR1.box
     have q0 := z0c hR1.box 0
     simp at q0
     clear hl1 hf9 hR1 hO1
     by_cases hT : (la1 : Nat) = D.L.T
     ·have bT : (((la1 : Nat) : Int) == (D.L.T : Int)) = true := by simp [hT]
      have HFIN := zh (show C.watchN f (k + 1) = { D with late := (D.late.set k la1).set k 0, failed := D.failed.set k true } by
       rw [uh HNX]
       unfold RBx.watch1
       rw [uh HLX, if_pos hT])
      clear hT
      go_quiet (fail)
      go_wp2
      have hRM2 := fun n => (((uh HR1).below (below_drewN (Below.refl _ _) n)).setFailed (uh HNE).1.symm k true).setLate (by simp [(uh HNE).2.2]) k 0
      have hO2 := fun n => (uh HO1).trans (((Only.of_below (below_drewN (Below.refl W1.heap.size W1) n)).trans (Only.setCell (a := ⟨gf, k, none⟩) (Or.inr rfl) (.bool true))).trans (Only.setCell (a := ⟨gd, k, none⟩) (Or.inl rfl) (.int .i64 0)))
      refine ⟨⟨k + 1, by go_num, by omega, ?_, (uh HFr).only (hO2 _) (fun b hb hh => ?_), (uh HO).trans (hO2 _), ?_, ?_⟩, by simp [intOf]; omega⟩
      ·rw [uh HFIN]; exact hRM2 _
      ·rcases hh with hh | hh
       ·exact (uh HPP b hb).1 hh
       ·exact (uh HPP b hb).2 hh
      ·rw [(hO2 _).block _ qf (fun hh => by have := uh HFW _ hh; omega)]; exact uh HFB
      ·rw [uh HFIN]
       intro y hy
       rcases List.mem_or_eq_of_mem_set hy with h | h
       ·rcases List.mem_or_eq_of_mem_set h with h | h
        ·have := uh HLK y h; omega
        ·omega
       ·omega
     ·have bT : (((la1 : Nat) : Int) == (D.L.T : Int)) = false := by simp; omega
      have HFIN := zh (show C.watchN f (k + 1) = { D with late := D.late.set k la1 } by
       rw [uh HNX]
       unfold RBx.watch1
       rw [uh HLX, if_neg hT])
      clear hT
      go_quiet (fail)
      go_wp2
      have hRM2 := fun n => (uh HR1).below (below_drewN (Below.refl _ _) n)
      have hO2 := fun n => (uh HO1).trans (Only.of_below (below_drewN (Below.refl W1.heap.size W1) n))
      refine ⟨⟨k + 1, by go_num, by omega, ?_, (uh HFr).only (hO2 _) (fun b hb hh => ?_), (uh HO).trans (hO2 _), ?_, ?_⟩, by simp [intOf]; omega⟩
      ·rw [uh HFIN]; exact hRM2 _
      ·rcases hh with hh | hh
       ·exact (uh HPP b hb).1 hh
       ·exact (uh HPP b hb).2 hh
      ·rw [(hO2 _).block _ qf (fun hh => by have := uh HFW _ hh; omega)]; exact uh HFB
      ·rw [uh HFIN]
       intro y hy
       rcases List.mem_or_eq_of_mem_set hy with h | h
       ·have := uh HLK y h; omega
       ·omega
  ·obtain rfl : k = n := by omega
   have HZ := zh (show C.watchN f C.L.sw.length = D by rw [<- hn, hD])
   have l1 : (C.L.sw.length : Int) <= k := by omega
   clear hM hFr
   go_wp2
   refine bodyPost_end (v := .tuple #[]) (by simp [results, Tryz.results99, go_sem]) rfl ?_
   exact ⟨rfl, by rw [uh HZ]; exact uh HM, uh HFr, uh HO⟩
end Go.Proofs.YtkbpocecbcaiiaaGreatDoor
