import Derived.Test.YtkbpocecbcaiiaaGreatDoorJ23
namespace Go.Proofs.YtkbpocecbcaiiaaGreatDoor
open Go.RowKit
def RLn.withP (x : RLn) (p : Nat) : RLn := ⟨p, x.train, x.been, x.marks, x.gone, x.count⟩
def RBx.busy (C : RBx) (f : Fr) (r : Nat) : Bool := busyF (C.pth r) f
def RBx.inB (C : RBx) (f : Fr) (r : Nat) : Bool := f.occ.getD ((C.pth r).getD 0 0) false
def RBx.step (C : RBx) (f : Fr) (r : Nat) : RBx :=
 if (C.line r).ph = 119 then
  if C.broken r then C.put r ((C.line r).withP 102)
  else if C.right f r && !C.busy f r then C.put r ⟨103, (C.line r).train, true, (C.line r).marks, (C.line r).gone, (C.line r).count⟩ else C
 else if (C.line r).ph = 103 then
  if C.inB f r then C.overtaken r
  else if C.broken r then C.put r ((C.line r).withP 102)
  else if !C.right f r || C.busy f r then C.put r ((C.line r).withP 119) else C
 else if (C.line r).ph = 116 then C.passed f r
 else if (C.line r).ph = 100 then
  if C.inB f r then C.overtaken r
  else if 0 < (C.line r).count then C.put r ⟨(C.line r).ph, (C.line r).train, (C.line r).been, (C.line r).marks, (C.line r).gone, (C.line r).count - 1⟩
  else if !C.busy f r then { C.put r RLn0 with sta := C.sta.set (C.line r).train (C.sta.getD (C.line r).train 0 - 1) } else C
 else C
structure StepOK (C : RBx) (f : Fr) (r : Nat) : Prop where
 lines : C.lines.length <= C.L.rts.length
 rts : C.L.rts.length <= 1000
 sw : C.L.sw.length <= 1000
 occ : f.occ.length = C.L.sw.length
 rep : f.rep.length = C.L.sw.length
 failed : C.failed.length = C.L.sw.length
 ne : (C.pth r) ≠ []
 pl : (C.pth r).length <= 1000
 sec : ∀ s, s ∈ C.pth r -> s < f.occ.length
 foot : (C.L.rt r).foot < f.occ.length
 passing : (C.line r).ph = 116 -> (C.line r).marks.length = (C.pth r).length /\ (C.line r).gone < (C.pth r).length
 dropped : (C.line r).ph = 100 -> (C.line r).train < C.sta.length /\ 1 <= C.sta.getD (C.line r).train 0 /\ C.sta.getD (C.line r).train 0 <= 1000
 count : (C.line r).count <= 1000
theorem put_self (C : RBx) (r : Nat) (hr : r < C.lines.length) : C.put r C.lines[r] = C := by
 unfold RBx.put
 rw [z1s]
set_option maxRecDepth 100000 in
set_option maxHeartbeats 8000000 in
theorem rstep_any (R P : Nat -> Prop) (g : Nat) (C : RBx) (vh vr vt vl vw vf vd va vq : Value) (ms : List Value) (vfr : Value) (f : Fr) (r : Nat) (w : World) (h : RM w R g C vh vr vt vl vw vf vd va vq ms) (hf : FrIn P w vfr f)
  (hr : r < C.lines.length) (hrm : r < ms.length) (hP : ∀ b, P b -> vl.ownBlock ≠ some b /\ ms[r].ownBlock ≠ some b /\ va.ownBlock ≠ some b) (hS : StepOK C f r) :
  Calls Tryz.prog 100 #[.pointer (some ⟨g, 0, none⟩), .int .i64 r, vfr] w fun e w' => e = .returned (.tuple #[]) /\ (∃ m, RM w' R g (C.step f r) vh vr vt vl vw vf vd va vq (ms.set r m) /\ (m = ms[r] \/ ∀ b, m.ownBlock = some b -> w.heap.size <= b)) /\ FrIn P w' vfr f ∧
   Only (fun b => vl.ownBlock = some b \/ ms[r].ownBlock = some b \/ va.ownBlock = some b) w w' := by
 have hrr : r < C.L.rts.length := Nat.lt_of_lt_of_le hr hS.lines
 obtain ⟨gr, or_, cr, ap, cp, vs, vfl, vg, rfl, hRg, hgr, hcr, hcp, hcells, hpath⟩ := h.plan.route r hrr
 have hline : C.line r = C.lines[r] := z0b _ _ _ hr
 have hrt := rt_eq C.L r hrr
 have hnp : 0 < C.L.rts[r].path.length := by
  have := hS.ne
  unfold RBx.pth at this
  rw [hrt] at this
  rw [<- z1o]
  exact List.length_pos_iff.2 this
 obtain ⟨vo, vp, rfl, hO, hPr⟩ := hf.at
 obtain ⟨ao, co, rfl, -, hmo, o3⟩ := SlAt.open hO
 obtain ⟨ap2, cp2, rfl, -⟩ := SlAt.open hPr
 obtain ⟨gl, cl, rfl, hl1, hl2, hgl⟩ := z0s h.lines (by omega)
 obtain ⟨gp, op, hap, hRp, hgp, hp0⟩ := hpath 0 hnp
 subst hap
 unfold maxLen at hcr hcp hmo hl2
 have hsec0 := hS.sec ((C.pth r).getD 0 0) (by
  unfold RBx.pth
  rw [hrt, z0b _ _ _ (by rw [z1o]; exact hnp)]
  exact List.getElem_mem _)
 have hp0e : C.L.rts[r].path[0].1 = (C.pth r).getD 0 0 := by
  unfold RBx.pth
  rw [hrt, z0b _ _ _ (by rw [z1o]; exact hnp), secs_get _ _ hnp]
 rw [hp0e] at hp0
 obtain ⟨go, oo, rfl, hgo, cso, -, hCo, hco⟩ := o3 _ hsec0
 unfold CBool at hCo
 subst hCo
 have hin : f.occ[(C.pth r).getD 0 0] = C.inB f r := (z0b _ _ _ hsec0).symm
 have xo : w.cell? ⟨go, oo + (C.pth r).getD 0 0, none⟩ = some (.bool (C.inB f r)) := by
  have := hco 0 (by omega)
  rw [hin] at this
  simpa only [Nat.mul_one, Nat.add_zero, List.getElem?_cons_zero] using this
 have d1 := hcells 1 (by omega)
 simp at d1
 have HPI := zh (fun (wz : World) (hz : Below w.heap.size w wz) => h.plan.pathInts hRg r hrr d1 (fun k hk => hz.block k (h.plan.1 k hk)))
 have HBU := zh (fun (wz : World) (hz : Below w.heap.size w wz) => rbusy_any _ _ (secs C.L.rts[r].path) f wz (uh HPI wz hz) (hf.at.below hz) (by
  have := hS.sec
  unfold RBx.pth at this
  rw [hrt] at this
  exact this))
 have hbe : busyF (secs C.L.rts[r].path) f = C.busy f r := by unfold RBx.busy RBx.pth; rw [hrt]
 rw [hbe] at HBU
 have HRI := zh (fun (wz : World) (hz : Below w.heap.size w wz) => rright_any g C _ f r wz (h.at.below hz) (hf.at.below hz) hrr hS.sw hS.rep)
 have HBR := zh (fun (wz : World) (hz : Below w.heap.size w wz) => rbroken_any g C r wz (h.at.below hz) hrr hS.sw hS.failed)
 obtain ⟨⟨q3, q4, q5, q6, q7, q8, q9, q10, q11⟩, -, qg⟩ := box12 h.box
 have HH := zh h
 have HF := zh hf
 have HS := zh hS
 have HPP := zh hP
 have HLE := zh hline
 have m1 : (r : Int) < C.L.rts.length := by omega
 have m2 : (r : Int) < C.lines.length := by omega
 have m3 : (0 : Int) < C.L.rts[r].path.length := by omega
 have m4 : (((C.pth r).getD 0 0 : Nat) : Int) < f.occ.length := by omega
 have q6g := (fun (wz : World) (hz : Below w.heap.size w wz) => hz.cell (p := ⟨g, 6, none⟩) qg)
 have HQ6 := zh q6g
 have hp0' : w.cell? ⟨gp, op, none⟩ = some (.int .i64 ((C.pth r).getD 0 0 : Nat)) := by simpa using hp0
 clear hp0 hp0e hco hin hcells hpath o3 hO hPr hP hS hf h hsec0 hbe q6g hline
 have HW0 := zh (show Below (w.heap.size + 1) (w.alloc (.cells #[.slice (some ⟨go, oo, none⟩) f.occ.length co, .slice ap2 f.rep.length cp2, .string f.cmds] 163)) (w.alloc (.cells #[.slice (some ⟨go, oo, none⟩) f.occ.length co, .slice ap2 f.rep.length cp2, .string f.cmds] 163)) from Below.refl _ _)
 generalize (C.pth r).getD 0 0 = s0 at *
 obtain ⟨bin, hbin⟩ : ∃ b, C.inB f r = b := ⟨_, rfl⟩
 rw [hbin] at xo
 have HBIN := zh hbin
 clear hbin
 generalize hnp' : C.L.rts[r].path.length = np at *
 have HNP := zh hnp'
 clear hnp'
 generalize hno' : f.occ.length = no at *
 have HNO := zh hno'
 clear hno'
 go_enter Tryz.func100, Tryz.ntmps100
 go_wp2
 go_quiet (fail)
 go_wp2_with fail
 refine (uh HBU _ (by exact below_drewN (z02 w _) _)).mono ?_
 rintro e w1 ⟨rfl, hb1⟩
 have hx1 : Below (w.heap.size + 1) (w.alloc (.cells #[.slice (some ⟨go, oo, none⟩) no co, .slice ap2 f.rep.length cp2, .string f.cmds] 163)) w1 := (below_drewN (Below.refl _ _) _).trans (hb1.mono (by show w.heap.size + 1 <= (w.alloc (.cells #[.slice (some ⟨go, oo, none⟩) no co, .slice ap2 f.rep.length cp2, .string f.cmds] 163)).heap.size; simp))
 have HX1 := zh hx1
 obtain ⟨z0, z1, z2, qz1⟩ := box3 hx1
 clear hb1 hx1
 go_wp2_with fail
 refine (uh HRI w1 (z05 (uh HX1))).mono ?_
 rintro e w2 ⟨rfl, hb2⟩
 have hx2 : Below (w.heap.size + 1) (w.alloc (.cells #[.slice (some ⟨go, oo, none⟩) no co, .slice ap2 f.rep.length cp2, .string f.cmds] 163)) w2 := (uh HX1).trans (hb2.mono (by omega))
 have HX2 := zh hx2
 clear z0 z1 z2
 obtain ⟨z0, z1, z2, qz2⟩ := box3 hx2
 clear hb2 hx2
 go_wp2_with fail
 refine (uh HBR w2 (z05 (uh HX2))).mono ?_
 rintro e w3 ⟨rfl, hb3⟩
 have hx3 : Below (w.heap.size + 1) (w.alloc (.cells #[.slice (some ⟨go, oo, none⟩) no co, .slice ap2 f.rep.length cp2, .string f.cmds] 163)) w3 := (uh HX2).trans (hb3.mono (by omega))
 have HB3 := zh (z05 hx3)
 clear z0 z1 z2
 obtain ⟨z0, z1, z2, qz3⟩ := box3 hx3
 clear hb3 hx3 HBU HRI HBR HX1 HX2 HPI
 have hM := (uh HH).below (uh HB3)
 have hFr := (uh HF).below (uh HB3)
 have HM := zh hM
 have HFr := zh hFr
 have hMp : RM w3 R g (C.put r C.lines[r]) vh (.slice (some ⟨gr, or_, none⟩) C.L.rts.length cr) vt (.slice (some ⟨gl, 0, none⟩) C.lines.length cl) vw vf vd va vq ms := by rw [put_self C r hr]; exact hM
 have HMP := zh hMp
 obtain ⟨hxc, hxz, hglw⟩ := hMp.lineCells rfl hr hrm
 have x0 := hxc 0 (by omega)
 have x1 := hxc 1 (by omega)
 have x2 := hxc 2 (by omega)
 have x3 := hxc 3 (by omega)
 have x4 := hxc 4 (by omega)
 have x5 := hxc 5 (by omega)
 have y0 := hxz 0
 have y1 := hxz 1
 have y2 := hxz 2
 have y3 := hxz 3
 have y4 := hxz 4
 have y5 := hxz 5
 simp [lnV] at x0 x1 x2 x3 x4 x5 y0
 clear q3 q4 q5 q6 q7 q8 q9 q10 q11
 obtain ⟨⟨q3, q4, q5, q6, q7, q8, q9, q10, q11⟩, -, qg3⟩ := box12 hM.box
 have HMS0 := zh (z1s ms r hrm)
 have HOW := zh (show Only (fun b => (Value.slice (some ⟨gl, 0, none⟩) C.lines.length cl).ownBlock = some b \/ ms[r].ownBlock = some b \/ va.ownBlock = some b) w w3 from Only.of_below (uh HB3))
 have HFG := zh (show ∀ (W : World), Only (fun b => (Value.slice (some ⟨gl, 0, none⟩) C.lines.length cl).ownBlock = some b \/ ms[r].ownBlock = some b \/ va.ownBlock = some b) w3 W →
   FrIn P W (.agg #[.slice (some ⟨go, oo, none⟩) no co, .slice ap2 f.rep.length cp2, .string f.cmds]) f /\ Only (fun b => (Value.slice (some ⟨gl, 0, none⟩) C.lines.length cl).ownBlock = some b \/ ms[r].ownBlock = some b \/ va.ownBlock = some b) w W from fun W hW => by
  exact ⟨(uh HFr).only hW (fun b hb hh => by
   rcases hh with hh | hh | hh
   ·exact (uh HPP b hb).1 hh
   ·exact (uh HPP b hb).2.1 hh
   ·exact (uh HPP b hb).2.2 hh), (uh HOW).trans hW⟩)
 have n1 : g ≠ gl := z2e ⟨_, _, hM.box⟩ (z0g hM.lines (k := gl) rfl) (by decide)
 have n2 := Ne.symm n1
 have HSP := zh (RBx.step.eq_1 C f r)
 rw [uh HLE, uh HBIN] at HSP
 obtain ⟨br, hbr⟩ : ∃ b, C.broken r = b := ⟨_, rfl⟩
 obtain ⟨ri, hri⟩ : ∃ b, C.right f r = b := ⟨_, rfl⟩
 obtain ⟨bu, hbu⟩ : ∃ b, C.busy f r = b := ⟨_, rfl⟩
 rw [hbr, hri, hbu] at HSP ⊢
 clear hbr hri hbu hxc hxz hM hFr hMp
 obtain ⟨ph, hph⟩ : ∃ n, C.lines[r].ph = n := ⟨_, rfl⟩
 rw [hph] at x0 HSP
 have HPH := zh hph
 clear hph
 by_cases h119 : ph = 119
 ·subst h119
  rw [if_pos rfl] at HSP
  cases br with
  | true =>
   rw [if_pos rfl] at HSP
   go_wp2
   refine bodyPost_end (v := .tuple #[]) (by simp [results, Tryz.results100, go_sem]) rfl ?_
   obtain ⟨c1, c2⟩ := uh HFG _ (Only.setCell (a := ⟨gl, r * 6 + 0, none⟩) (Or.inl rfl) (.int .u8 102))
   exact ⟨rfl, ⟨ms[r], by rw [uh HSP, uh HMS0]; exact (uh HMP).setX rfl hr hrm _ 0 (.int .u8 102) (by omega) rfl rfl, .inl rfl⟩, c1, c2⟩
  | false =>
   rw [if_neg (by simp)] at HSP
   cases ri with
   | false =>
    rw [if_neg (by simp)] at HSP
    go_wp2
    refine bodyPost_end (v := .tuple #[]) (by simp [results, Tryz.results100, go_sem]) rfl ?_
    obtain ⟨c1, c2⟩ := uh HFG _ (Only.refl _ _)
    exact ⟨rfl, ⟨ms[r], by rw [uh HSP, uh HMS0]; exact uh HM, .inl rfl⟩, c1, c2⟩
   | true =>
    cases bu with
    | true =>
     rw [if_neg (by simp)] at HSP
     go_wp2
     refine bodyPost_end (v := .tuple #[]) (by simp [results, Tryz.results100, go_sem]) rfl ?_
     obtain ⟨c1, c2⟩ := uh HFG _ (Only.refl _ _)
     exact ⟨rfl, ⟨ms[r], by rw [uh HSP, uh HMS0]; exact uh HM, .inl rfl⟩, c1, c2⟩
    | false =>
     rw [if_pos (by simp)] at HSP
     have h1 := (uh HMP).setX rfl hr hrm (C.lines[r].withP 103) 0 (.int .u8 103) (by omega) rfl rfl
     have h2 := h1.setX rfl hr hrm ⟨103, C.lines[r].train, true, C.lines[r].marks, C.lines[r].gone, C.lines[r].count⟩ 2 (.bool true) (by omega) rfl rfl
     have H2 := zh h2
     clear h1 h2
     go_wp2
     refine bodyPost_end (v := .tuple #[]) (by simp [results, Tryz.results100, go_sem]) rfl ?_
     obtain ⟨c1, c2⟩ := uh HFG _ ((Only.setCell (a := ⟨gl, r * 6 + 0, none⟩) (Or.inl rfl) (.int .u8 103)).trans (Only.setCell (a := ⟨gl, r * 6 + 2, none⟩) (Or.inl rfl) (.bool true)))
     exact ⟨rfl, ⟨ms[r], by rw [uh HSP, uh HMS0]; exact uh H2, .inl rfl⟩, c1, c2⟩
 rw [if_neg h119] at HSP
 have b119 : ((ph : Int) == 119) = false := by simp; omega
 have HOV := zh (rovertaken_any R g C vh _ vt _ vw vf vd va vq ms r w3 (uh HM) hr (uh HS).lines (by
  have := (uh HS).ne
  unfold RBx.pth at this
  intro e
  exact this (by rw [e]; rfl)) (by
  have := (uh HS).pl
  unfold RBx.pth at this
  rwa [z1o] at this))
 by_cases h103 : ph = 103
 ·subst h103
  rw [if_pos rfl] at HSP
  cases bin with
  | true =>
   rw [if_pos rfl] at HSP
   go_wp2_with fail
   refine (uh HOV).mono ?_
   rintro e w4 ⟨rfl, ⟨m, hm, hmf⟩, hO4⟩
   have HM4 := zh hm
   have HMF := zh hmf
   have HO4 := zh (show Only (fun b => (Value.slice (some ⟨gl, 0, none⟩) C.lines.length cl).ownBlock = some b \/ ms[r].ownBlock = some b \/ va.ownBlock = some b) w3 w4 from hO4.mono (fun k hk => Or.inl hk))
   clear hm hmf hO4
   go_wp2
   refine bodyPost_end (v := .tuple #[]) (by simp [results, Tryz.results100, go_sem]) rfl ?_
   obtain ⟨c1, c2⟩ := uh HFG _ (uh HO4)
   exact ⟨rfl, ⟨m, by rw [uh HSP]; exact uh HM4, .inr (fun b hb => Nat.le_trans (uh HB3).size (uh HMF b hb))⟩, c1, c2⟩
  | false =>
   rw [if_neg (by simp)] at HSP
   cases br with
   | true =>
    rw [if_pos rfl] at HSP
    go_wp2
    refine bodyPost_end (v := .tuple #[]) (by simp [results, Tryz.results100, go_sem]) rfl ?_
    obtain ⟨c1, c2⟩ := uh HFG _ (Only.setCell (a := ⟨gl, r * 6 + 0, none⟩) (Or.inl rfl) (.int .u8 102))
    exact ⟨rfl, ⟨ms[r], by rw [uh HSP, uh HMS0]; exact (uh HMP).setX rfl hr hrm _ 0 (.int .u8 102) (by omega) rfl rfl, .inl rfl⟩, c1, c2⟩
   | false =>
    rw [if_neg (by simp)] at HSP
    cases ri with
    | false =>
     rw [if_pos (by simp)] at HSP
     go_wp2
     refine bodyPost_end (v := .tuple #[]) (by simp [results, Tryz.results100, go_sem]) rfl ?_
     obtain ⟨c1, c2⟩ := uh HFG _ (Only.setCell (a := ⟨gl, r * 6 + 0, none⟩) (Or.inl rfl) (.int .u8 119))
     exact ⟨rfl, ⟨ms[r], by rw [uh HSP, uh HMS0]; exact (uh HMP).setX rfl hr hrm _ 0 (.int .u8 119) (by omega) rfl rfl, .inl rfl⟩, c1, c2⟩
    | true =>
     cases bu with
     | true =>
      rw [if_pos (by simp)] at HSP
      go_wp2
      refine bodyPost_end (v := .tuple #[]) (by simp [results, Tryz.results100, go_sem]) rfl ?_
      obtain ⟨c1, c2⟩ := uh HFG _ (Only.setCell (a := ⟨gl, r * 6 + 0, none⟩) (Or.inl rfl) (.int .u8 119))
      exact ⟨rfl, ⟨ms[r], by rw [uh HSP, uh HMS0]; exact (uh HMP).setX rfl hr hrm _ 0 (.int .u8 119) (by omega) rfl rfl, .inl rfl⟩, c1, c2⟩
     | false =>
      rw [if_neg (by simp)] at HSP
      go_wp2
      refine bodyPost_end (v := .tuple #[]) (by simp [results, Tryz.results100, go_sem]) rfl ?_
      obtain ⟨c1, c2⟩ := uh HFG _ (Only.refl _ _)
      exact ⟨rfl, ⟨ms[r], by rw [uh HSP, uh HMS0]; exact uh HM, .inl rfl⟩, c1, c2⟩
 rw [if_neg h103] at HSP
 have b103 : ((ph : Int) == 103) = false := by simp; omega
 by_cases h116 : ph = 116
 ·subst h116
  rw [if_pos rfl] at HSP
  have hps := (uh HS).passing (by rw [uh HLE]; exact uh HPH)
  have HPS := zh (rpassed_any R P g C vh _ vt _ vw vf vd va vq ms _ f r w3 (uh HM) (uh HFr) hr hrm (fun b hb => ⟨(uh HPP b hb).1, (uh HPP b hb).2.1⟩) (uh HS).lines hps.1 hps.2 (uh HS).pl (uh HS).sec (uh HS).foot)
  clear hps
  go_wp2_with fail
  refine (uh HPS).mono ?_
  rintro e w4 ⟨rfl, ⟨m, hm, hmf⟩, hF4, hO4⟩
  have HM4 := zh hm
  have HMF := zh hmf
  have HO4 := zh (show Only (fun b => (Value.slice (some ⟨gl, 0, none⟩) C.lines.length cl).ownBlock = some b \/ ms[r].ownBlock = some b \/ va.ownBlock = some b) w3 w4 from hO4.mono (fun k hk => hk.elim Or.inl (fun h => Or.inr (Or.inl h))))
  clear hm hmf hO4 hF4
  go_wp2
  refine bodyPost_end (v := .tuple #[]) (by simp [results, Tryz.results100, go_sem]) rfl ?_
  obtain ⟨c1, c2⟩ := uh HFG _ (uh HO4)
  refine ⟨rfl, ⟨m, by rw [uh HSP]; exact uh HM4, ?_⟩, c1, c2⟩
  rcases uh HMF with h | h
  ·exact .inl h
  ·exact .inr (fun b hb => by rw [h] at hb; cases hb)
 rw [if_neg h116] at HSP
 have b116 : ((ph : Int) == 116) = false := by simp; omega
 by_cases h100 : ph = 100
 ·subst h100
  rw [if_pos rfl] at HSP
  cases bin with
  | true =>
   rw [if_pos rfl] at HSP
   go_wp2_with fail
   refine (uh HOV).mono ?_
   rintro e w4 ⟨rfl, ⟨m, hm, hmf⟩, hO4⟩
   have HM4 := zh hm
   have HMF := zh hmf
   have HO4 := zh (show Only (fun b => (Value.slice (some ⟨gl, 0, none⟩) C.lines.length cl).ownBlock = some b \/ ms[r].ownBlock = some b \/ va.ownBlock = some b) w3 w4 from hO4.mono (fun k hk => Or.inl hk))
   clear hm hmf hO4
   go_wp2
   refine bodyPost_end (v := .tuple #[]) (by simp [results, Tryz.results100, go_sem]) rfl ?_
   obtain ⟨c1, c2⟩ := uh HFG _ (uh HO4)
   exact ⟨rfl, ⟨m, by rw [uh HSP]; exact uh HM4, .inr (fun b hb => Nat.le_trans (uh HB3).size (uh HMF b hb))⟩, c1, c2⟩
  | false =>
   rw [if_neg (by simp)] at HSP
   have hcb := (uh HS).count
   rw [uh HLE] at hcb
   have hdr := (uh HS).dropped (by rw [uh HLE]; exact uh HPH)
   rw [uh HLE] at hdr
   obtain ⟨ct, hct⟩ : ∃ n, C.lines[r].count = n := ⟨_, rfl⟩
   rw [hct] at x5 HSP hcb
   clear hct HOV
   by_cases hc : 0 < ct
   ·rw [if_pos hc] at HSP
    obtain ⟨cn, hc1⟩ : ∃ n : Nat, (ct : Int) - 1 = n := ⟨ct - 1, by omega⟩
    rw [show ct - 1 = cn by omega] at HSP
    have e1 : (0 : Int) < ct := by omega
    have hwrp : IntKind.i64.wrap ((ct : Int) - 1) = (cn : Int) := by rw [hc1]; exact Go.IntWalk.i64_in _ (by omega)
    clear hc hdr
    go_wp2
    go_region
    all_goals
     go_wp2
     refine bodyPost_end (v := .tuple #[]) (by simp [results, Tryz.results100, go_sem]) rfl ?_
     have hb9 := (Below.refl w3.heap.size w3).drew
     obtain ⟨c1, c2⟩ := uh HFG _ ((Only.of_below hb9).trans (Only.setCell (a := ⟨gl, r * 6 + 5, none⟩) (Or.inl rfl) (.int .i64 cn)))
     exact ⟨rfl, ⟨ms[r], by rw [uh HSP, uh HMS0]; exact ((uh HMP).below hb9).setX rfl hr hrm _ 5 (.int .i64 cn) (by omega) (by unfold lnV; rw [uh HPH]; rfl) rfl, .inl rfl⟩, c1, c2⟩
   ·rw [if_neg hc] at HSP
    have e1 : ¬ (0 : Int) < ct := by omega
    cases bu with
    | true =>
     rw [if_neg (by simp)] at HSP
     clear hc hdr
     go_wp2
     refine bodyPost_end (v := .tuple #[]) (by simp [results, Tryz.results100, go_sem]) rfl ?_
     obtain ⟨c1, c2⟩ := uh HFG _ (Only.refl _ _)
     exact ⟨rfl, ⟨ms[r], by rw [uh HSP, uh HMS0]; exact uh HM, .inl rfl⟩, c1, c2⟩
    | false =>
     rw [if_pos (by simp)] at HSP
     obtain ⟨tr, htr⟩ : ∃ n, C.lines[r].train = n := ⟨_, rfl⟩
     rw [htr] at x1 HSP hdr
     obtain ⟨hd1, hd2, hd3⟩ := hdr
     obtain ⟨ga, ca, hva, ha1, ha2, hga⟩ := z0s (uh HM).sta (by omega)
     subst hva
     unfold maxLen at ha2
     have xa : w3.cell? ⟨ga, tr, none⟩ = some (.int .i64 (C.sta.getD tr 0 : Nat)) := by
      rw [(uh HM).sta.cellAt tr (by omega), z0b _ _ _ hd1]; simp [intsV, hd1]
     have za := (uh HM).sta.frozenAt tr
     have n3 : g ≠ ga := z2e ⟨_, _, (uh HM).box⟩ (z0g (uh HM).sta (k := ga) rfl) (by decide)
     have n4 : gl ≠ ga := z2e (z0g (uh HM).lines (k := gl) rfl) (z0g (uh HM).sta (k := ga) rfl) (by decide)
     have n5 := Ne.symm n3
     have n6 := Ne.symm n4
     obtain ⟨a1, ha1e⟩ : ∃ n, C.sta.getD tr 0 = n := ⟨_, rfl⟩
     rw [ha1e] at xa hd2 hd3 HSP
     obtain ⟨an, han⟩ : ∃ n : Nat, (a1 : Int) - 1 = n := ⟨a1 - 1, by omega⟩
     rw [show a1 - 1 = an by omega] at HSP
     have hwrp : IntKind.i64.wrap ((a1 : Int) - 1) = (an : Int) := by rw [han]; exact Go.IntWalk.i64_in _ (by omega)
     have e2 : (tr : Int) < C.sta.length := by omega
     have e3 : (0 : Int) <= tr := by omega
     have h1 : RM (w3.setCell ⟨ga, tr, none⟩ (.int .i64 an)) R g (({ C with sta := C.sta.set tr an } : RBx).put r C.lines[r]) vh (.slice (some ⟨gr, or_, none⟩) C.L.rts.length cr) vt (.slice (some ⟨gl, 0, none⟩) C.lines.length cl) vw vf vd (.slice (some ⟨ga, 0, none⟩) C.sta.length ca) vq ms :=
      (uh HMP).setSta rfl tr an
     have HR2 := zh ((h1.reset rfl hr hrm).below ((Below.refl _ _).drew))
     clear hc htr ha1e h1
     go_wp2
     go_region
     all_goals
      go_wp2
      refine bodyPost_end (v := .tuple #[]) (by simp [results, Tryz.results100, go_sem]) rfl ?_
      obtain ⟨c1, c2⟩ := uh HFG _ ((((((((Only.setCell (w := w3) (a := ⟨ga, tr, none⟩) (Or.inr (Or.inr rfl)) (.int .i64 an)).trans (Only.setCell (a := ⟨gl, r * 6, none⟩) (Or.inl rfl) (.int .u8 46))).trans (Only.setCell (a := ⟨gl, r * 6 + 1, none⟩) (Or.inl rfl) (.int .i64 0))).trans (Only.setCell (a := ⟨gl, r * 6 + 2, none⟩) (Or.inl rfl) (.bool false))).trans (Only.setCell (a := ⟨gl, r * 6 + 3, none⟩) (Or.inl rfl) (.slice none 0 0))).trans (Only.setCell (a := ⟨gl, r * 6 + 4, none⟩) (Or.inl rfl) (.int .i64 0))).trans (Only.setCell (a := ⟨gl, r * 6 + 5, none⟩) (Or.inl rfl) (.int .i64 0))).trans (Only.of_below ((Below.refl _ _).drew)))
      exact ⟨rfl, ⟨.slice none 0 0, by rw [uh HSP]; exact uh HR2, .inr (fun b hb => by cases hb)⟩, c1, c2⟩
 rw [if_neg h100] at HSP
 have b100 : ((ph : Int) == 100) = false := by simp; omega
 go_wp2
 refine bodyPost_end (v := .tuple #[]) (by simp [results, Tryz.results100, go_sem]) rfl ?_
 obtain ⟨c1, c2⟩ := uh HFG _ (Only.refl _ _)
 exact ⟨rfl, ⟨ms[r], by rw [uh HSP, uh HMS0]; exact uh HM, .inl rfl⟩, c1, c2⟩
end Go.Proofs.YtkbpocecbcaiiaaGreatDoor
