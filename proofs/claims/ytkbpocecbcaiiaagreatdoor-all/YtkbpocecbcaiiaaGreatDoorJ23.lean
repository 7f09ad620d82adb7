import Derived.Test.YtkbpocecbcaiiaaGreatDoorJ22
namespace Go.Proofs.YtkbpocecbcaiiaaGreatDoor
open Go.RowKit
def markN (m : List Bool) (p : List Nat) (oc : List Bool) : Nat -> List Bool
 | 0 => m
 | k + 1 => if oc.getD (p.getD k 0) false then (markN m p oc k).set k true else markN m p oc k
theorem markN_len (m : List Bool) (p : List Nat) (oc : List Bool) (k : Nat) : (markN m p oc k).length = m.length := by
 induction k with
 | zero => rfl
 | succ k ih => unfold markN; split <;> simp [ih]
def RBx.pth (C : RBx) (r : Nat) : List Nat := secs (C.L.rt r).path
def RBx.mkd (C : RBx) (f : Fr) (r : Nat) : RLn := { C.line r with marks := markN (C.line r).marks (C.pth r) f.occ (C.pth r).length }
def RBx.passed (C : RBx) (f : Fr) (r : Nat) : RBx :=
 if (C.mkd f r).marks.getD (C.line r).gone false = false then C.put r (C.mkd f r)
 else if (C.line r).gone + 1 < (C.pth r).length then
  if f.occ.getD ((C.pth r).getD (C.line r).gone 0) false = false /\ (C.mkd f r).marks.getD ((C.line r).gone + 1) false = true then C.put r { C.mkd f r with gone := (C.line r).gone + 1 } else C.put r (C.mkd f r)
 else if f.occ.getD (if 0 < (C.line r).gone then (C.pth r).getD ((C.line r).gone - 1) 0 else (C.L.rt r).foot) false = true then C.put r (C.mkd f r) else C.put r RLn0
def RLn.withM (x : RLn) (m : List Bool) : RLn := ⟨x.ph, x.train, x.been, m, x.gone, x.count⟩
set_option maxRecDepth 100000 in
set_option maxHeartbeats 8000000 in
theorem rpassed_any (R P : Nat -> Prop) (g : Nat) (C : RBx) (vh vr vt vl vw vf vd va vq : Value) (ms : List Value) (vfr : Value) (f : Fr) (r : Nat) (w : World) (h : RM w R g C vh vr vt vl vw vf vd va vq ms) (hf : FrIn P w vfr f)
  (hr : r < C.lines.length) (hrm : r < ms.length) (hP : ∀ b, P b -> vl.ownBlock ≠ some b /\ ms[r].ownBlock ≠ some b)
  (hl : C.lines.length <= C.L.rts.length) (hml : (C.line r).marks.length = (C.pth r).length) (hgo : (C.line r).gone < (C.pth r).length) (hpl : (C.pth r).length <= 1000)
  (hsec : ∀ s, s ∈ C.pth r -> s < f.occ.length) (hft : (C.L.rt r).foot < f.occ.length) :
  Calls Tryz.prog 148 #[.pointer (some ⟨g, 0, none⟩), .int .i64 r, vfr] w fun e w' => e = .returned (.tuple #[]) /\ (∃ m, RM w' R g (C.passed f r) vh vr vt vl vw vf vd va vq (ms.set r m) /\ (m = ms[r] \/ m = .slice none 0 0)) /\ FrIn P w' vfr f ∧
   Only (fun b => vl.ownBlock = some b \/ ms[r].ownBlock = some b) w w' := by
 have hrr : r < C.L.rts.length := by omega
 obtain ⟨gr, or_, cr, ap, cp, vs, vfl, vg, rfl, hRg, hgr, hcr, hcp, hcells, hpath⟩ := h.plan.route r hrr
 have hline : C.line r = C.lines[r] := z0b _ _ _ hr
 have hrt := rt_eq C.L r hrr
 unfold RBx.pth at hml hgo hpl hsec
 rw [hrt] at hml hgo hpl hsec hft
 rw [hline] at hml hgo
 rw [z1o] at hml hgo hpl
 obtain ⟨vo, vp, rfl, hO, hPr⟩ := hf.at
 obtain ⟨ao, co, rfl, -, hmo, -⟩ := SlAt.open hO
 obtain ⟨ap2, cp2, rfl, -⟩ := SlAt.open hPr
 obtain ⟨gl, cl, rfl, hl1, hl2, hgl⟩ := z0s h.lines (by omega)
 obtain ⟨gm, cm, hmr, hm1, hm2, hgm⟩ := z0s (h.marks r hrm hr) (by omega)
 clear hO hPr
 unfold maxLen at hcr hcp hmo hl2 hm2
 obtain ⟨gp, op, hap, hRp, hgp, -⟩ := hpath 0 (by omega)
 subst hap
 obtain ⟨pL, hpL⟩ : ∃ pL, pL = secs C.L.rts[r].path := ⟨_, rfl⟩
 have hpn : C.L.rts[r].path.length = pL.length := by rw [hpL, z1o]
 have HPC := zh (show ∀ i, i < pL.length -> w.cell? ⟨gp, op + i, none⟩ = some (.int .i64 (pL.getD i 0 : Nat)) by
  intro i hi
  obtain ⟨gp', op', ha, -, -, hc⟩ := hpath i (by omega)
  simp only [Option.some.injEq, Addr.mk.injEq, and_true] at ha
  obtain ⟨rfl, rfl⟩ := ha
  rw [hc, z0b _ _ _ hi]
  simp only [hpL]
  rw [secs_get _ _ (by omega)])
 have HSE := zh (show ∀ i, i < pL.length -> pL.getD i 0 < f.occ.length by
  intro i hi
  rw [z0b _ _ _ hi]
  exact hsec _ (by rw [<- hpL]; exact List.getElem_mem hi))
 have d0 := hcells 0 (by omega)
 have d1 := hcells 1 (by omega)
 simp at d0 d1
 rw [hpn] at d1
 obtain ⟨mk, hmk⟩ : ∃ mk, mk = markN C.lines[r].marks pL f.occ := ⟨_, rfl⟩
 have HMK := zh hmk
 have HML := zh (show ∀ k, (mk k).length = pL.length by intro k; rw [hmk, markN_len, hml, hpn])
 have HMS := zh (show ∀ k, mk (k + 1) = if f.occ.getD (pL.getD k 0) false then (mk k).set k true else mk k by intro k; rw [hmk]; rfl)
 have HOUT := zh (show ∀ b, ((Value.slice (some ⟨gl, 0, none⟩) C.lines.length cl).ownBlock = some b \/ ms[r].ownBlock = some b) -> ¬ R b /\ b < w.heap.size by
  intro b hb
  rcases hb with hb | hb
  ·exact ⟨h.out b (.inr (.inl hb)), (h.lines.lt b hb).2⟩
  ·exact ⟨h.out b (.inr (.inr (.inr (.inr (.inr (.inr (.inr ⟨_, List.getElem_mem hrm, hb⟩))))))), ((h.marks r hrm hr).lt b hb).2⟩)
 have HRI := zh (show ∀ b, R b -> b < w.heap.size from h.plan.1)
 have HPP := zh hP
 have HW0 := zh (z02 w (.cells #[.slice ao f.occ.length co, .slice ap2 f.rep.length cp2, .string f.cmds] 163))
 have HFB := zh (heap_alloc_new w (.cells #[.slice ao f.occ.length co, .slice ap2 f.rep.length cp2, .string f.cmds] 163))
 have HM0 := zh (show RM (w.alloc (.cells #[.slice ao f.occ.length co, .slice ap2 f.rep.length cp2, .string f.cmds] 163)) R g (C.put r (C.lines[r].withM (mk 0))) vh (.slice (some ⟨gr, or_, none⟩) C.L.rts.length cr) vt (.slice (some ⟨gl, 0, none⟩) C.lines.length cl) vw vf vd va vq ms by
  have e : C.put r (C.lines[r].withM (mk 0)) = C := by
   have e1 : mk 0 = C.lines[r].marks := by rw [hmk]; rfl
   unfold RBx.put
   rw [e1]
   show { C with lines := C.lines.set r C.lines[r] } = C
   rw [z1s]
  rw [e]
  exact h.below (uh HW0))
 have HF0 := zh (hf.below (uh HW0))
 have x3 : w.cell? ⟨gl, r * 6 + 3, none⟩ = some (.slice (some ⟨gm, 0, none⟩) pL.length cm) := by
  have hlen := lnsV_len _ _ h.mlen
  rw [h.lines.cellAt (r * 6 + 3) (by omega), z1k _ 6 (z36 _ _) r 3 (by omega) (by omega), z3k _ _ r (by omega) hr hrm]
  show some ms[r] = _
  rw [hmr, hml, hpn]
 obtain ⟨⟨q3, q4, q5, q6, q7, q8, q9, q10, q11⟩, -, qg⟩ := box12 h.box
 have hgm' : gm < w.heap.size := hgm
 have HGO := zh (show C.lines[r].gone < pL.length by omega)
 have HFT := zh d0
 have HEQ := zh (And.intro hline (And.intro hrt (And.intro hpL hpn)))
 have HMR := zh hmr
 have hnp : 0 < pL.length := by omega
 have hpl1 : pL.length <= 1000 := by omega
 have m1 : (r : Int) < C.L.rts.length := by omega
 have m2 : (r : Int) < C.lines.length := by omega
 have HH := zh h
 clear hcells hpath hsec hP h hf hmk hpL hpn hline hrt hmr hml hgo hpl
 go_enter Tryz.func148, Tryz.ntmps148
 go_wp2
 go_loopw [8] (fun i wr => ∃ k : Nat, i = .int .i64 k /\ k <= pL.length /\ RM wr R g (C.put r (C.lines[r].withM (mk k))) vh (.slice (some ⟨gr, or_, none⟩) C.L.rts.length cr) vt (.slice (some ⟨gl, 0, none⟩) C.lines.length cl) vw vf vd va vq ms ∧
   FrIn P wr (.agg #[.slice ao f.occ.length co, .slice ap2 f.rep.length cp2, .string f.cmds]) f /\ Only (fun b => (Value.slice (some ⟨gl, 0, none⟩) C.lines.length cl).ownBlock = some b \/ ms[r].ownBlock = some b) w wr ∧
   wr.heap[w.heap.size]? = some (.cells #[.slice ao f.occ.length co, .slice ap2 f.rep.length cp2, .string f.cmds] 163 (0, 0))) (fun i _ => pL.length - (intOf i).toNat)
 case atStart => exact ⟨0, rfl, Nat.zero_le _, uh HM0, uh HF0, Only.of_below (uh HW0), uh HFB⟩
 case round =>
  clear HM0 HF0 HW0 HFB
  obtain ⟨k, rfl, hk, hM, hFr, hO, hfb⟩ := hrel
  have HM := zh hM
  have HFr := zh hFr
  have HO := zh hO
  have HFB := zh hfb
  obtain ⟨⟨y0, y1, y2⟩, -, qf⟩ := tri0 hfb
  have hsame : SameOn R w wr := fun b hb => hO.block b (uh HRI b hb) (fun hF => (uh HOUT b hF).1 hb)
  have HSM := zh hsame
  obtain ⟨vo', vp', he, hOc, -⟩ := hFr.at
  simp only [Value.agg.injEq, Array.mk.injEq, List.cons.injEq, and_true] at he
  obtain ⟨rfl, -⟩ := he
  obtain ⟨ao', co', he, -, -, o3⟩ := SlAt.open hOc
  simp only [Value.slice.injEq, true_and] at he
  obtain ⟨rfl, rfl⟩ := he
  have HO3 := zh o3
  clear hOc o3 hfb hsame hO hFr d0 d1 x3 q3 q4 q5 q6 q7 q8 q9 q10 q11
  by_cases hlt : k < pL.length
  ·have xp := uh HPC k hlt
   rw [<- z28 (uh HSM) hRp] at xp
   have hse := uh HSE k hlt
   have HMSk := zh (uh HMS k)
   obtain ⟨s0, hs0⟩ : ∃ s0, pL.getD k 0 = s0 := ⟨_, rfl⟩
   rw [hs0] at xp hse HMSk
   clear hs0
   obtain ⟨go, oo, hao, hgo, cso, -, hCo, hco⟩ := uh HO3 _ hse
   subst hao
   unfold CBool at hCo
   subst hCo
   have xo := hco 0 (by omega)
   simp at xo
   have HGD := zh (z0b f.occ (s0) false hse)
   have e1 : (k : Int) < pL.length := by omega
   have e2 : ((s0 : Nat) : Int) < f.occ.length := by omega
   have e3 : (0 : Int) <= ((s0 : Nat) : Int) := by omega
   obtain ⟨b, hbb⟩ : ∃ b, f.occ[s0] = b := ⟨_, rfl⟩
   rw [hbb] at xo
   have HNX := zh (show mk (k + 1) = if b then (mk k).set k true else mk k by rw [uh HMSk, uh HGD, hbb])
   have hr' : r < (C.put r (C.lines[r].withM (mk k))).lines.length := by simpa [RBx.put] using hr
   have hrow := hM.marks r hrm hr'
   have hpg := put_get C r (C.lines[r].withM (mk k)) hr'
   rw [hpg] at hrow
   have hrow2 : wr.ownsRow 0 4 1 (.slice (some ⟨gm, 0, none⟩) pL.length cm) pL.length (z0t (mk k)) := by
    have e : wr.ownsRow 0 4 1 ms[r] (mk k).length (z0t (mk k)) := hrow
    rw [uh HML k] at e
    have hme : ms[r] = .slice (some ⟨gm, 0, none⟩) pL.length cm := by
     rw [uh HMR]
     congr 1
     rw [<- uh HML 0, uh HMK]; rfl
    rw [hme] at e
    exact e
   have xm : wr.cell? ⟨gm, k, none⟩ = some (.bool ((mk k).getD k false)) := by
    have hkl : k < (mk k).length := by rw [uh HML k]; exact hlt
    rw [hrow2.cellAt k (by omega), z0b _ _ _ hkl]
    simp [z0t, hkl]
   have zm := hrow2.frozenAt k
   have HST := zh (show ∀ n, RM ((wr.drewN n).setCell ⟨gm, k, none⟩ (.bool true)) R g (C.put r (C.lines[r].withM ((mk k).set k true))) vh (.slice (some ⟨gr, or_, none⟩) C.L.rts.length cr) vt (.slice (some ⟨gl, 0, none⟩) C.lines.length cl) vw vf vd va vq ms by
    intro n
    have hms : ms[r] = .slice (some ⟨gm, 0, none⟩) ((C.put r (C.lines[r].withM (mk k))).lines[r]'hr').marks.length cm := by
     rw [hpg]
     show ms[r] = .slice (some ⟨gm, 0, none⟩) (mk k).length cm
     rw [uh HMR, uh HML k, <- uh HML 0, uh HMK]; rfl
    have := (hM.below (below_drewN (Below.refl _ _) n)).setM1 r hr' hrm hms k true
    have e : { C.put r (C.lines[r].withM (mk k)) with lines := (C.put r (C.lines[r].withM (mk k))).lines.set r { (C.put r (C.lines[r].withM (mk k))).lines[r]'hr' with marks := ((C.put r (C.lines[r].withM (mk k))).lines[r]'hr').marks.set k true } } = C.put r (C.lines[r].withM ((mk k).set k true)) := by
     rw [hpg]
     exact put_put C r _ _
    rw [e] at this
    exact this)
   have HOS := zh (show ∀ n, Only (fun b => (Value.slice (some ⟨gl, 0, none⟩) C.lines.length cl).ownBlock = some b \/ ms[r].ownBlock = some b) wr ((wr.drewN n).setCell ⟨gm, k, none⟩ (.bool true)) from fun n =>
    (Only.of_below (below_drewN (Below.refl _ _) n)).trans (Only.setCell (a := ⟨gm, k, none⟩) (Or.inr (by rw [uh HMR]; rfl)) _))
   have HOD := zh (show ∀ n, Only (fun b => (Value.slice (some ⟨gl, 0, none⟩) C.lines.length cl).ownBlock = some b \/ ms[r].ownBlock = some b) wr (wr.drewN n) from fun n => Only.of_below (below_drewN (Below.refl _ _) n))
   have HCL := zh (show ∀ W, Only (fun b => (Value.slice (some ⟨gl, 0, none⟩) C.lines.length cl).ownBlock = some b \/ ms[r].ownBlock = some b) wr W →
     FrIn P W (.agg #[.slice (some ⟨go, oo, none⟩) f.occ.length co, .slice ap2 f.rep.length cp2, .string f.cmds]) f /\ Only (fun b => (Value.slice (some ⟨gl, 0, none⟩) C.lines.length cl).ownBlock = some b \/ ms[r].ownBlock = some b) w W ∧
     W.heap[w.heap.size]? = some (.cells #[.slice (some ⟨go, oo, none⟩) f.occ.length co, .slice ap2 f.rep.length cp2, .string f.cmds] 163 (0, 0)) from fun W hW =>
    ⟨(uh HFr).only hW (fun b hb hh => by
      rcases hh with hh | hh
      ·exact (uh HPP b hb).1 hh
      ·exact (uh HPP b hb).2 hh), (uh HO).trans hW, by
      rw [hW.block _ qf (fun hh => by have := (uh HOUT _ hh).2; omega)]; exact uh HFB⟩)
   have hgmw : gm < wr.heap.size := by
    have := (z0s hrow2 hnp)
    obtain ⟨g', c', he, -, -, hg'⟩ := this
    simp only [Value.slice.injEq, Option.some.injEq, Addr.mk.injEq, and_true, true_and] at he
    omega
   have HPN := zh (show mk (k + 1) = mk (k + 1) from rfl)
   clear hbb hco hrow hrow2 hpg hM HGD HMSk HO3
   generalize (mk k).getD k false = mb at *
   generalize hno : f.occ.length = no at *
   generalize hnpl : pL.length = np at *
   have HNO := zh (And.intro hno hnpl)
   clear hno hnpl
   cases b with
   | true =>
    rw [if_pos rfl] at HNX
    go_wp2
    go_quiet (fail)
    go_wp2
    obtain ⟨c1, c2, c3⟩ := uh HCL _ (uh HOS _)
    exact ⟨⟨k + 1, by go_num, by omega, by rw [uh HNX]; exact uh HST _, c1, c2, c3⟩, by simp [intOf]; omega⟩
   | false =>
    rw [if_neg (by simp)] at HNX
    go_wp2
    go_quiet (fail)
    go_wp2
    obtain ⟨c1, c2, c3⟩ := uh HCL _ (uh HOD _)
    exact ⟨⟨k + 1, by go_num, by omega, by rw [uh HNX]; exact (uh HM).below (below_drewN (Below.refl _ _) _), c1, c2, c3⟩, by simp [intOf]; omega⟩
  ·obtain rfl : k = pL.length := by omega
   obtain ⟨hxc, hxz, hglw⟩ := hM.lineCells rfl hr hrm
   have x0 := hxc 0 (by omega)
   have x1 := hxc 1 (by omega)
   have x2 := hxc 2 (by omega)
   have x3 := hxc 3 (by omega)
   have x4 := hxc 4 (by omega)
   have x5 := hxc 5 (by omega)
   have z0 := hxz 0
   have z1 := hxz 1
   have z2 := hxz 2
   have z3 := hxz 3
   have z4 := hxz 4
   have z5 := hxz 5
   simp [lnV, RLn.withM] at x0 x1 x2 x3 x4 x5 z0
   have hr' : r < (C.put r (C.lines[r].withM (mk pL.length))).lines.length := by rw [put_len]; exact hr
   have hrow := hM.marks r hrm hr'
   rw [put_get] at hrow
   have hrow2 : wr.ownsRow 0 4 1 (.slice (some ⟨gm, 0, none⟩) pL.length cm) pL.length (z0t (mk pL.length)) := by
    have e : wr.ownsRow 0 4 1 ms[r] (mk pL.length).length (z0t (mk pL.length)) := hrow
    rw [uh HML] at e
    have hme : ms[r] = .slice (some ⟨gm, 0, none⟩) pL.length cm := by
     rw [uh HMR]
     congr 1
     rw [<- uh HML 0, uh HMK]; rfl
    rw [hme] at e
    exact e
   have HXM := zh (show ∀ i, i < pL.length -> wr.cell? ⟨gm, i, none⟩ = some (.bool ((mk pL.length).getD i false)) by
    intro i hi
    have hkl : i < (mk pL.length).length := by rw [uh HML]; exact hi
    rw [hrow2.cellAt i (by omega), z0b _ _ _ hkl]
    simp [z0t, hkl])
   have HXP := zh (show ∀ i, i < pL.length -> wr.cell? ⟨gp, op + i, none⟩ = some (.int .i64 (pL.getD i 0 : Nat)) by
    intro i hi
    rw [z28 (uh HSM) hRp]
    exact uh HPC i hi)
   have HXO := zh (show ∀ s, s < f.occ.length -> ∃ go oo, ao = some ⟨go, oo, none⟩ /\ go < wr.heap.size /\ wr.cell? ⟨go, oo + s, none⟩ = some (.bool (f.occ.getD s false)) by
    intro s hs
    obtain ⟨go, oo, hao, hgo, cso, -, hCo, hco⟩ := uh HO3 s hs
    unfold CBool at hCo
    subst hCo
    have xo := hco 0 (by omega)
    refine ⟨go, oo, hao, hgo, ?_⟩
    rw [z0b _ _ _ hs]
    simpa using xo)
   have xf : wr.cell? ⟨gr, or_ + r * 5, none⟩ = some (.int .i64 (C.L.rts[r].foot : Nat)) := by
    rw [z28 (uh HSM) hRg]
    exact uh HFT
   obtain ⟨⟨q3, q4, q5, q6, q7, q8, q9, q10, q11⟩, -, qg1⟩ := box12 hM.box
   have HPTH := zh (show C.pth r = pL by unfold RBx.pth; rw [(uh HEQ).2.1, (uh HEQ).2.2.1])
   have HMKD := zh (show C.mkd f r = C.lines[r].withM (mk pL.length) by
    unfold RBx.mkd
    rw [(uh HEQ).1, uh HPTH, uh HMK]; rfl)
   have HPASS := zh (show C.passed f r = (if (mk pL.length).getD C.lines[r].gone false = false then C.put r (C.lines[r].withM (mk pL.length))
     else if C.lines[r].gone + 1 < pL.length then
      if f.occ.getD (pL.getD C.lines[r].gone 0) false = false /\ (mk pL.length).getD (C.lines[r].gone + 1) false = true then C.put r ⟨C.lines[r].ph, C.lines[r].train, C.lines[r].been, mk pL.length, C.lines[r].gone + 1, C.lines[r].count⟩ else C.put r (C.lines[r].withM (mk pL.length))
     else if f.occ.getD (if 0 < C.lines[r].gone then pL.getD (C.lines[r].gone - 1) 0 else C.L.rts[r].foot) false = true then C.put r (C.lines[r].withM (mk pL.length)) else C.put r RLn0) by
    unfold RBx.passed
    rw [uh HMKD, uh HPTH, (uh HEQ).1, (uh HEQ).2.1]
    rfl)
   have HMS0 := zh (z1s ms r hrm)
   have HFG := zh (show ∀ (W : World), Only (fun b => (Value.slice (some ⟨gl, 0, none⟩) C.lines.length cl).ownBlock = some b \/ ms[r].ownBlock = some b) wr W →
     FrIn P W (.agg #[.slice ao f.occ.length co, .slice ap2 f.rep.length cp2, .string f.cmds]) f /\ Only (fun b => (Value.slice (some ⟨gl, 0, none⟩) C.lines.length cl).ownBlock = some b \/ ms[r].ownBlock = some b) w W from fun W hW =>
    ⟨(uh HFr).only hW (fun b hb hh => by
      rcases hh with hh | hh
      ·exact (uh HPP b hb).1 hh
      ·exact (uh HPP b hb).2 hh), (uh HO).trans hW⟩)
   have hgn := uh HGO
   have xg := uh HXM _ hgn
   have e1 : (pL.length : Int) <= pL.length := by omega
   have hme : ms[r] = .slice (some ⟨gm, 0, none⟩) pL.length cm := by
    rw [uh HMR]
    congr 1
    rw [<- uh HML 0, uh HMK]; rfl
   rw [hme] at x3
   have HME := zh hme
   clear hxc hxz hrow hrow2 hme HO3 hM hk hlt
   obtain ⟨gn, hgne⟩ : ∃ gn, gn = C.lines[r].gone := ⟨_, rfl⟩
   rw [<- hgne] at x4 hgn xg HPASS
   clear hgne HGO
   obtain ⟨b1, hb1⟩ : ∃ b, (mk pL.length).getD gn false = b := ⟨_, rfl⟩
   rw [hb1] at xg HPASS
   clear hb1
   have e2 : (gn : Int) < pL.length := by omega
   cases b1 with
   | false =>
    rw [if_pos rfl] at HPASS
    go_wp2
    refine bodyPost_ret (v := .tuple #[]) (by simp [results, Tryz.results148, go_sem]) rfl ?_
    obtain ⟨c1, c2⟩ := uh HFG _ (Only.refl _ _)
    exact ⟨rfl, ⟨ms[r], by rw [uh HPASS, uh HMS0]; exact uh HM, .inl rfl⟩, c1, c2⟩
   | true =>
    rw [if_neg (by simp)] at HPASS
    by_cases h1 : gn + 1 < pL.length
    ·rw [if_pos h1] at HPASS
     have hs1 := uh HSE gn hgn
     have xp1 := uh HXP gn hgn
     obtain ⟨s1, hs1e⟩ : ∃ s, pL.getD gn 0 = s := ⟨_, rfl⟩
     rw [hs1e] at hs1 xp1 HPASS
     obtain ⟨go, oo, hao, hgo, xo⟩ := uh HXO s1 hs1
     subst hao
     have xg1 := uh HXM (gn + 1) h1
     obtain ⟨b2, hb2⟩ : ∃ b, f.occ.getD s1 false = b := ⟨_, rfl⟩
     rw [hb2] at xo HPASS
     obtain ⟨b3, hb3⟩ : ∃ b, (mk pL.length).getD (gn + 1) false = b := ⟨_, rfl⟩
     rw [hb3] at xg1 HPASS
     obtain ⟨gn1, hgn1⟩ : ∃ n : Nat, (gn : Int) + 1 = n := ⟨gn + 1, by omega⟩
     have hgn1' : gn + 1 = gn1 := by omega
     rw [hgn1'] at xg1 HPASS
     have e3 : (gn1 : Int) < pL.length := by omega
     have e4 : (s1 : Int) < f.occ.length := by omega
     have hwrp : IntKind.i64.wrap ((gn : Int) + 1) = (gn1 : Int) := by rw [hgn1]; exact Go.IntWalk.i64_in _ (by omega)
     have HSTO := zh (show ∀ n, RM ((wr.drewN n).setCell ⟨gl, r * 6 + 4, none⟩ (.int .i64 gn1)) R g (C.put r ⟨C.lines[r].ph, C.lines[r].train, C.lines[r].been, mk pL.length, gn1, C.lines[r].count⟩) vh (.slice (some ⟨gr, or_, none⟩) C.L.rts.length cr) vt (.slice (some ⟨gl, 0, none⟩) C.lines.length cl) vw vf vd va vq ms from fun n =>
      ((uh HM).below (below_drewN (Below.refl _ _) n)).setX rfl hr hrm _ 4 (.int .i64 gn1) (by omega) rfl rfl)
     have HOSO := zh (show ∀ n, Only (fun b => (Value.slice (some ⟨gl, 0, none⟩) C.lines.length cl).ownBlock = some b \/ ms[r].ownBlock = some b) wr ((wr.drewN n).setCell ⟨gl, r * 6 + 4, none⟩ (.int .i64 gn1)) from fun n =>
      (Only.of_below (below_drewN (Below.refl _ _) n)).trans (Only.setCell (a := ⟨gl, r * 6 + 4, none⟩) (Or.inl rfl) _))
     clear hs1e hb2 hb3 hgn1' HXM HXP HXO h1
     generalize hno : f.occ.length = no at *
     generalize hnpl : pL.length = np at *
     have HNO := zh (And.intro hno hnpl)
     clear hno hnpl
     cases b2 with
     | true =>
      rw [if_neg (by simp)] at HPASS
      go_wp2
      go_quiet (fail)
      go_wp2
      refine bodyPost_ret (v := .tuple #[]) (by simp [results, Tryz.results148, go_sem]) rfl ?_
      obtain ⟨c1, c2⟩ := uh HFG _ (Only.of_below (below_drewN (Below.refl wr.heap.size wr) _))
      rw [<- (uh HNO).1] at c1
      exact ⟨rfl, ⟨ms[r], by rw [uh HPASS, uh HMS0]; exact (uh HM).below (below_drewN (Below.refl _ _) _), .inl rfl⟩, c1, c2⟩
     | false =>
      cases b3 with
      | false =>
       rw [if_neg (by simp)] at HPASS
       go_wp2
       go_quiet (fail)
       go_wp2
       refine bodyPost_ret (v := .tuple #[]) (by simp [results, Tryz.results148, go_sem]) rfl ?_
       obtain ⟨c1, c2⟩ := uh HFG _ (Only.of_below (below_drewN (Below.refl wr.heap.size wr) _))
       rw [<- (uh HNO).1] at c1
       exact ⟨rfl, ⟨ms[r], by rw [uh HPASS, uh HMS0]; exact (uh HM).below (below_drewN (Below.refl _ _) _), .inl rfl⟩, c1, c2⟩
      | true =>
       rw [if_pos ⟨rfl, rfl⟩] at HPASS
       go_wp2
       go_quiet (fail)
       go_wp2
       refine bodyPost_ret (v := .tuple #[]) (by simp [results, Tryz.results148, go_sem]) rfl ?_
       obtain ⟨c1, c2⟩ := uh HFG _ (uh HOSO _)
       rw [<- (uh HNO).1] at c1
       exact ⟨rfl, ⟨ms[r], by rw [uh HPASS, uh HMS0]; exact uh HSTO _, .inl rfl⟩, c1, c2⟩
    ·rw [if_neg h1] at HPASS
     have e3 : (pL.length : Int) <= (gn : Int) + 1 := by omega
     have HRS := zh (show RM ((((((wr.setCell ⟨gl, r * 6 + 0, none⟩ (.int .u8 46)).setCell ⟨gl, r * 6 + 1, none⟩ (.int .i64 0)).setCell ⟨gl, r * 6 + 2, none⟩ (.bool false)).setCell ⟨gl, r * 6 + 3, none⟩ (.slice none 0 0)).setCell ⟨gl, r * 6 + 4, none⟩ (.int .i64 0)).setCell ⟨gl, r * 6 + 5, none⟩ (.int .i64 0))
       R g (C.put r RLn0) vh (.slice (some ⟨gr, or_, none⟩) C.L.rts.length cr) vt (.slice (some ⟨gl, 0, none⟩) C.lines.length cl) vw vf vd va vq (ms.set r (.slice none 0 0)) from (uh HM).reset rfl hr hrm)
     have HORS := zh (show Only (fun b => (Value.slice (some ⟨gl, 0, none⟩) C.lines.length cl).ownBlock = some b \/ ms[r].ownBlock = some b) wr ((((((wr.setCell ⟨gl, r * 6 + 0, none⟩ (.int .u8 46)).setCell ⟨gl, r * 6 + 1, none⟩ (.int .i64 0)).setCell ⟨gl, r * 6 + 2, none⟩ (.bool false)).setCell ⟨gl, r * 6 + 3, none⟩ (.slice none 0 0)).setCell ⟨gl, r * 6 + 4, none⟩ (.int .i64 0)).setCell ⟨gl, r * 6 + 5, none⟩ (.int .i64 0)) from
      (((((Only.setCell (a := ⟨gl, r * 6 + 0, none⟩) (Or.inl rfl) _).trans (Only.setCell (a := ⟨gl, r * 6 + 1, none⟩) (Or.inl rfl) _)).trans (Only.setCell (a := ⟨gl, r * 6 + 2, none⟩) (Or.inl rfl) _)).trans (Only.setCell (a := ⟨gl, r * 6 + 3, none⟩) (Or.inl rfl) _)).trans (Only.setCell (a := ⟨gl, r * 6 + 4, none⟩) (Or.inl rfl) _)).trans (Only.setCell (a := ⟨gl, r * 6 + 5, none⟩) (Or.inl rfl) _))
     by_cases hg0 : 0 < gn
     ·rw [if_pos hg0] at HPASS
      have hs1 := uh HSE (gn - 1) (by omega)
      have xp1 := uh HXP (gn - 1) (by omega)
      obtain ⟨s1, hs1e⟩ : ∃ s, pL.getD (gn - 1) 0 = s := ⟨_, rfl⟩
      rw [hs1e] at hs1 xp1 HPASS
      obtain ⟨go, oo, hao, hgo, xo⟩ := uh HXO s1 hs1
      subst hao
      obtain ⟨b2, hb2⟩ : ∃ b, f.occ.getD s1 false = b := ⟨_, rfl⟩
      rw [hb2] at xo HPASS
      obtain ⟨gn1, hgn1⟩ : ∃ n : Nat, (gn : Int) - 1 = n := ⟨gn - 1, by omega⟩
      have hgn1' : gn - 1 = gn1 := by omega
      rw [hgn1'] at xp1
      have e4 : (s1 : Int) < f.occ.length := by omega
      have e5 : (gn1 : Int) < pL.length := by omega
      have e6 : (0 : Int) < gn := by omega
      have e7 : (0 : Int) <= gn1 := by omega
      have hwrp : IntKind.i64.wrap ((gn : Int) - 1) = (gn1 : Int) := by rw [hgn1]; exact Go.IntWalk.i64_in _ (by omega)
      clear hs1e hb2 hgn1' HXM HXP HXO h1 hg0
      cases b2 with
      | true =>
       rw [if_pos rfl] at HPASS
       go_wp2
       refine bodyPost_end (v := .tuple #[]) (by simp [results, Tryz.results148, go_sem]) rfl ?_
       obtain ⟨c1, c2⟩ := uh HFG _ (Only.refl _ _)
       exact ⟨rfl, ⟨ms[r], by rw [uh HPASS, uh HMS0]; exact uh HM, .inl rfl⟩, c1, c2⟩
      | false =>
       rw [if_neg (by simp)] at HPASS
       go_wp2
       refine bodyPost_end (v := .tuple #[]) (by simp [results, Tryz.results148, go_sem]) rfl ?_
       obtain ⟨c1, c2⟩ := uh HFG _ (uh HORS)
       exact ⟨rfl, ⟨.slice none 0 0, by rw [uh HPASS]; exact uh HRS, .inr rfl⟩, c1, c2⟩
     ·rw [if_neg hg0] at HPASS
      obtain ⟨s1, hs1e⟩ : ∃ s, C.L.rts[r].foot = s := ⟨_, rfl⟩
      rw [hs1e] at xf hft HPASS
      obtain ⟨go, oo, hao, hgo, xo⟩ := uh HXO s1 hft
      subst hao
      obtain ⟨b2, hb2⟩ : ∃ b, f.occ.getD s1 false = b := ⟨_, rfl⟩
      rw [hb2] at xo HPASS
      have e4 : (s1 : Int) < f.occ.length := by omega
      have e6 : ¬ (0 : Int) < gn := by omega
      clear hs1e hb2 HXM HXP HXO h1 hg0
      cases b2 with
      | true =>
       rw [if_pos rfl] at HPASS
       go_wp2
       refine bodyPost_end (v := .tuple #[]) (by simp [results, Tryz.results148, go_sem]) rfl ?_
       obtain ⟨c1, c2⟩ := uh HFG _ (Only.refl _ _)
       exact ⟨rfl, ⟨ms[r], by rw [uh HPASS, uh HMS0]; exact uh HM, .inl rfl⟩, c1, c2⟩
      | false =>
       rw [if_neg (by simp)] at HPASS
       go_wp2
       refine bodyPost_end (v := .tuple #[]) (by simp [results, Tryz.results148, go_sem]) rfl ?_
       obtain ⟨c1, c2⟩ := uh HFG _ (uh HORS)
       exact ⟨rfl, ⟨.slice none 0 0, by rw [uh HPASS]; exact uh HRS, .inr rfl⟩, c1, c2⟩
end Go.Proofs.YtkbpocecbcaiiaaGreatDoor
