import Derived.Test.YtkbpocecbcaiiaaGreatDoorJ24
import Derived.Deep.AppendLies
namespace Go.Proofs.YtkbpocecbcaiiaaGreatDoor
open Go.RowKit
def RBx.canc (C : RBx) (r : Nat) : Bool := (C.line r).ph == 119 || (C.line r).ph == 103 || (C.line r).ph == 102
def RBx.cancel (C : RBx) (f : Fr) (r : Nat) : RBx :=
 if C.canc r then C.put r ⟨100, (C.line r).train, (C.line r).been, (C.line r).marks, (C.line r).gone, if (C.line r).been && f.occ.getD (C.L.rt r).foot false then C.L.D else 0⟩ else C
set_option maxRecDepth 100000 in
set_option maxHeartbeats 8000000 in
theorem rcancel_any (R P : Nat -> Prop) (g : Nat) (C : RBx) (vh vr vt vl vw vf vd va vq : Value) (ms : List Value) (vfr : Value) (f : Fr) (r : Nat) (w : World) (h : RM w R g C vh vr vt vl vw vf vd va vq ms) (hf : FrIn P w vfr f)
  (hr : r < C.lines.length) (hrm : r < ms.length) (hP : ∀ b, P b -> vl.ownBlock ≠ some b) (hl : C.lines.length <= C.L.rts.length) (hft : (C.L.rt r).foot < f.occ.length) :
  Calls Tryz.prog 150 #[.pointer (some ⟨g, 0, none⟩), .int .i64 r, vfr] w fun e w' => e = .returned (.int .u8 (if C.canc r then 107 else 110 : Nat)) /\ RM w' R g (C.cancel f r) vh vr vt vl vw vf vd va vq ms /\ FrIn P w' vfr f ∧
   Only (fun b => vl.ownBlock = some b) w w' := by
 have hrr : r < C.L.rts.length := by omega
 obtain ⟨gr, or_, cr, ap, cp, vs, vfl, vg, rfl, hRg, hgr, hcr, hcp, hcells, -⟩ := h.plan.route r hrr
 have hline : C.line r = C.lines[r] := z0b _ _ _ hr
 have hrt := rt_eq C.L r hrr
 rw [hrt] at hft
 obtain ⟨vo, vp, rfl, hO, hPr⟩ := hf.at
 obtain ⟨ao, co, rfl, -, hmo, o3⟩ := SlAt.open hO
 obtain ⟨ap2, cp2, rfl, -⟩ := SlAt.open hPr
 obtain ⟨gl, cl, rfl, hl1, hl2, hgl⟩ := z0s h.lines (by omega)
 obtain ⟨go, oo, rfl, hgo, cso, -, hCo, hco⟩ := o3 _ hft
 unfold CBool at hCo
 subst hCo
 have xo := hco 0 (by omega)
 have d0 := hcells 0 (by omega)
 simp at d0 xo
 obtain ⟨bo, hbo⟩ : ∃ b, f.occ[C.L.rts[r].foot] = b := ⟨_, rfl⟩
 rw [hbo] at xo
 have HBO := zh (show f.occ.getD (C.L.rt r).foot false = bo by rw [hrt, z0b _ _ _ hft]; exact hbo)
 have HB0 := zh (z02 w (.cells #[.slice (some ⟨go, oo, none⟩) f.occ.length co, .slice ap2 f.rep.length cp2, .string f.cmds] 163))
 have hMp : RM w R g (C.put r C.lines[r]) vh (.slice (some ⟨gr, or_, none⟩) C.L.rts.length cr) vt (.slice (some ⟨gl, 0, none⟩) C.lines.length cl) vw vf vd va vq ms := by rw [put_self C r hr]; exact h
 have HMP := zh hMp
 have HM := zh h
 have HF := zh hf
 have HPP := zh hP
 obtain ⟨hxc, hxz, -⟩ := hMp.lineCells rfl hr hrm
 have x0 := hxc 0 (by omega)
 have x2 := hxc 2 (by omega)
 have x5 := hxc 5 (by omega)
 have y0 := hxz 0
 have y5 := hxz 5
 simp [lnV] at x0 x2 x5 y0
 obtain ⟨⟨q3, q4, q5, q6, q7, q8, q9, q10, q11⟩, -, qg⟩ := box12 h.box
 have q1 := z0c h.box 1
 simp at q1
 have n1 : g ≠ gl := z2e ⟨_, _, h.box⟩ (z0g h.lines (k := gl) rfl) (by decide)
 have n2 := Ne.symm n1
 have HCN := zh (show C.canc r = (C.lines[r].ph == 119 || C.lines[r].ph == 103 || C.lines[r].ph == 102) by unfold RBx.canc; rw [hline])
 have HCA := zh (RBx.cancel.eq_1 C f r)
 rw [hline, uh HBO] at HCA
 have m1 : (r : Int) < C.L.rts.length := by omega
 have m2 : (r : Int) < C.lines.length := by omega
 have m3 : ((C.L.rts[r].foot : Nat) : Int) < f.occ.length := by omega
 unfold maxLen at hcr hcp hmo hl2
 have HRG := zh (And.intro hRg (And.intro hgr h.plan))
 clear hbo hco hcells o3 hO hPr hP hf h hMp hxc hxz hrt
 obtain ⟨ph, hph⟩ : ∃ n, C.lines[r].ph = n := ⟨_, rfl⟩
 rw [hph] at x0 HCN
 clear hph
 have hcase : (ph ≠ 119 /\ ph ≠ 103 /\ ph ≠ 102) \/ (ph = 119 \/ ph = 103 \/ ph = 102) := by omega
 rcases hcase with ⟨h1, h2, h3⟩ | hcase
 ·have b1 : ((ph : Int) != 119) = true := by simp; omega
  have b2 : ((ph : Int) != 103) = true := by simp; omega
  have b3 : ((ph : Int) != 102) = true := by simp; omega
  have hcn : C.canc r = false := by rw [uh HCN]; simp [h1, h2, h3]
  rw [hcn, if_neg (by simp)] at HCA
  rw [hcn]
  clear h1 h2 h3 hcn
  go_enter Tryz.func150, Tryz.ntmps150
  go_wp2
  go_ret
  exact ⟨rfl, by rw [uh HCA]; exact (uh HM).below (uh HB0), (uh HF).below (uh HB0), Only.of_below (uh HB0)⟩
 ·have hcn : C.canc r = true := by rw [uh HCN]; rcases hcase with rfl | rfl | rfl <;> rfl
  rw [hcn, if_pos rfl] at HCA
  rw [hcn]
  clear hcn
  rcases hcase with rfl | rfl | rfl
  all_goals
   go_enter Tryz.func150, Tryz.ntmps150
   go_wp2
   generalize hW1 : World.alloc _ _ = W1
   have hR1 : RM W1 R g (C.put r ⟨100, C.lines[r].train, C.lines[r].been, C.lines[r].marks, C.lines[r].gone, 0⟩) vh (.slice (some ⟨gr, or_, none⟩) C.L.rts.length cr) vt (.slice (some ⟨gl, 0, none⟩) C.lines.length cl) vw vf vd va vq ms := by
    rw [<- hW1]
    exact (((uh HMP).setX rfl hr hrm (C.lines[r].withP 100) 0 (.int .u8 100) (by omega) rfl rfl).setX rfl hr hrm ⟨100, C.lines[r].train, C.lines[r].been, C.lines[r].marks, C.lines[r].gone, 0⟩ 5 (.int .i64 0) (by omega) rfl rfl).below (z02 _ _)
   have hO1 : Only (fun b => (Value.slice (some ⟨gl, 0, none⟩) C.lines.length cl).ownBlock = some b) w W1 := by
    rw [<- hW1]
    have hF : (fun b => (Value.slice (some ⟨gl, 0, none⟩) C.lines.length cl).ownBlock = some b) gl := rfl
    exact ((Only.setCell (a := ⟨gl, r * 6, none⟩) hF (.int .u8 100)).trans (Only.setCell (a := ⟨gl, r * 6 + 5, none⟩) hF (.int .i64 0))).trans (Only.of_below (z02 _ _))
   have hfb : W1.heap[w.heap.size]? = some (.cells #[.slice (some ⟨go, oo, none⟩) f.occ.length co, .slice ap2 f.rep.length cp2, .string f.cmds] 163 (0, 0)) := by
    rw [<- hW1]
    have e := heap_alloc_new ((w.setCell ⟨gl, r * 6, none⟩ (.int .u8 100)).setCell ⟨gl, r * 6 + 5, none⟩ (.int .i64 0)) (.cells #[.slice (some ⟨go, oo, none⟩) f.occ.length co, .slice ap2 f.rep.length cp2, .string f.cmds] 163)
    rw [show ((w.setCell ⟨gl, r * 6, none⟩ (.int .u8 100)).setCell ⟨gl, r * 6 + 5, none⟩ (.int .i64 0)).heap.size = w.heap.size by simp [World.setCell]] at e
    exact e
   have hFr1 := (uh HF).only hO1 (fun b hb hh => uh HPP b hb hh)
   obtain ⟨⟨z0, z1, z2⟩, -, qf⟩ := tri0 hfb
   have d01 : W1.cell? ⟨gr, or_ + r * 5, none⟩ = some (.int .i64 (C.L.rts[r].foot : Nat)) := by
    rw [z28 (R := R) (w := w) (fun b hb => hO1.block b ((uh HRG).2.2.1 b hb) (fun hh => (uh HM).out b (.inr (.inl hh)) hb)) (uh HRG).1]
    exact d0
   have xo1 : W1.cell? ⟨go, oo + C.L.rts[r].foot, none⟩ = some (.bool bo) := by
    obtain ⟨vo', vp', he, hOc, -⟩ := hFr1.at
    simp only [Value.agg.injEq, Array.mk.injEq, List.cons.injEq, and_true] at he
    obtain ⟨rfl, -⟩ := he
    obtain ⟨ao', co', he, -, -, o3⟩ := SlAt.open hOc
    simp only [Value.slice.injEq, true_and] at he
    obtain ⟨go', oo', hao, -, cso, -, hCo, hco⟩ := o3 _ hft
    rw [<- he.1] at hao
    simp only [Option.some.injEq, Addr.mk.injEq, and_true] at hao
    obtain ⟨rfl, rfl⟩ := hao
    unfold CBool at hCo
    subst hCo
    have xq := hco 0 (by omega)
    have e2 : f.occ[C.L.rts[r].foot] = bo := by
     have := uh HBO
     rw [rt_eq C.L r hrr, z0b _ _ _ hft] at this
     exact this
    rw [e2] at xq
    simpa using xq
   have HR1 := zh hR1
   have HO1 := zh hO1
   have HFr1 := zh hFr1
   clear q3 q4 q5 q6 q7 q8 q9 q10 q11 q1 x0 x2 x5 y0 y5 xo d0
   obtain ⟨hxc, hxz, hglw⟩ := hR1.lineCells rfl hr hrm
   have x2 := hxc 2 (by omega)
   have x5 := hxc 5 (by omega)
   have y5 := hxz 5
   simp [lnV] at x2 x5
   obtain ⟨⟨q3, q4, q5, q6, q7, q8, q9, q10, q11⟩, -, qg1⟩ := box12 hR1.box
   have q1 := z0c hR1.box 1
   simp at q1
   have HCL := zh (show ∀ n, RM ((W1.drewN n).setCell ⟨gl, r * 6 + 5, none⟩ (.int .i64 (C.L.D : Nat))) R g (C.put r ⟨100, C.lines[r].train, C.lines[r].been, C.lines[r].marks, C.lines[r].gone, C.L.D⟩) vh (.slice (some ⟨gr, or_, none⟩) C.L.rts.length cr) vt (.slice (some ⟨gl, 0, none⟩) C.lines.length cl) vw vf vd va vq ms from fun n =>
    (hR1.below (below_drewN (Below.refl _ _) n)).setX rfl hr hrm _ 5 (.int .i64 C.L.D) (by omega) rfl rfl)
   clear hxc hxz hR1 hO1 hfb hFr1 hW1
   obtain ⟨be, hbe⟩ : ∃ b, C.lines[r].been = b := ⟨_, rfl⟩
   rw [hbe] at x2 HCA HR1 HCL
   clear hbe
   cases be with
   | false =>
    go_quiet (fail)
    go_wp2
    go_ret
    exact ⟨rfl, by rw [uh HCA]; exact (uh HR1).below (below_drewN (Below.refl _ _) _), (uh HFr1).below (below_drewN (Below.refl _ _) _), (uh HO1).trans (Only.of_below (below_drewN (Below.refl _ _) _))⟩
   | true =>
    have HFE := zh (uh HFr1)
    obtain ⟨ft, hfe⟩ : ∃ n, C.L.rts[r].foot = n := ⟨_, rfl⟩
    rw [hfe] at d01 xo1 m3
    clear hfe hft
    generalize hno : f.occ.length = no at *
    have HNO := zh hno
    clear hno
    cases bo with
    | false =>
     go_quiet (fail)
     go_wp2
     go_ret
     exact ⟨rfl, by rw [uh HCA]; exact (uh HR1).below (below_drewN (Below.refl _ _) _), by have := uh HFr1; rw [<- uh HNO] at this; exact this.below (below_drewN (Below.refl _ _) _), (uh HO1).trans (Only.of_below (below_drewN (Below.refl _ _) _))⟩
    | true =>
     have hF : (fun b => (Value.slice (some ⟨gl, 0, none⟩) C.lines.length cl).ownBlock = some b) gl := rfl
     have HOF := zh (show ∀ n, Only (fun b => (Value.slice (some ⟨gl, 0, none⟩) C.lines.length cl).ownBlock = some b) W1 ((W1.drewN n).setCell ⟨gl, r * 6 + 5, none⟩ (.int .i64 (C.L.D : Nat))) from fun n => (Only.of_below (below_drewN (Below.refl _ _) n)).trans (Only.setCell (a := ⟨gl, r * 6 + 5, none⟩) hF _))
     clear hF
     go_quiet (fail)
     go_wp2
     go_region
     all_goals
      go_wp2
      go_ret
      have hfr := uh HFr1
      rw [<- uh HNO] at hfr
      exact ⟨rfl, by rw [uh HCA]; exact uh HCL _, hfr.only (uh HOF _) (fun b hb hh => uh HPP b hb hh), (uh HO1).trans (uh HOF _)⟩
theorem RM.appendWaits {w w1 : World} {R : Nat -> Prop} {g : Nat} {C : RBx} {vh vr vt vl vw vf vd va vq : Value} {ms : List Value} {o : Obj} {g' cap t : Nat} (h : RM w R g C vh vr vt vl vw vf vd va vq ms)
  (hown : w1.ownsRow 0 3 1 (.slice (some ⟨g', 0, none⟩) (C.waits.length + 1) cap) (C.waits.length + 1) (intsV C.waits ++ [.int .i64 t])) (hg : (w.alloc o).grownBy w1 vq.ownBlock) (hat : vq.ownBlock = some g' \/ g' = w.heap.size + 1) :
  RM (w1.setCell ⟨g, 11, none⟩ (.slice (some ⟨g', 0, none⟩) (C.waits.length + 1) cap)) R g { C with waits := C.waits ++ [t] } vh vr vt vl vw vf vd va (.slice (some ⟨g', 0, none⟩) (C.waits.length + 1) cap) ms := by
 have hk : ∀ e, 3 ≠ e -> Keeps e w w1 := fun e he => z07 h.waits hg he
 have hbox : w1.heap[g]? = _ := (hk _ (by decide) _ _ _ h.box).trans h.box
 have hT : Typed w1 g 159 := ⟨_, _, hbox⟩
 have ks : ∀ e, 159 ≠ e -> Keeps e w1 (w1.setCell ⟨g, 11, none⟩ (.slice (some ⟨g', 0, none⟩) (C.waits.length + 1) cap)) := fun e he => Keeps.setCell _ _ hT he
 have kk := fun e (h1 : 3 ≠ e) (h2 : 159 ≠ e) => (hk e h1).trans (ks e h2)
 have hblk : ∀ k, k < w.heap.size -> vq.ownBlock ≠ some k -> w1.heap[k]? = w.heap[k]? := fun k hk hn => by
  rw [hg.block k (by simp; omega) (fun e => hn e.symm)]
  exact Below.heap_alloc _ _ _ hk
 have hsz : w.heap.size <= w1.heap.size := by have := hg.size; simp at this; omega
 have hfar : ∀ (v : Value) (b : Nat), v.ownBlock = some b -> b < w.heap.size -> vq.ownBlock ≠ some b -> b ≠ g' := by
  intro v b hb hlt hne e
  subst e
  rcases hat with h1 | h1
  ·exact hne h1
  ·omega
 refine { box := ?_, plan := ?_, lines := ?_, mlen := h.mlen, marks := ?_, wanted := ?_, failed := ?_, late := ?_, sta := ?_, waits := ?_, sfm := h.sfm, smm := h.smm, sda := h.sda, sdq := ?_, saq := ?_, out := ?_ }
 ·exact z08 _ hbox
 ·refine h.plan.same (fun k hkR => ?_) (by simp [World.setCell]; exact hsz)
  rw [Below.heap_setCell _ _ _ _ (fun e => h.out g (.inl rfl) (by have e' : k = g := e; rw [e'] at hkR; exact hkR))]
  exact hblk k (h.plan.1 k hkR) (fun e => h.out k (.inr (.inr (.inr (.inr (.inr (.inr (.inl e))))))) hkR)
 ·exact z01 h.lines (kk _ (by decide) (by decide))
 ·exact fun i a b => z01 (h.marks i a b) (kk _ (by decide) (by decide))
 ·exact z01 h.wanted (kk _ (by decide) (by decide))
 ·exact z01 h.failed (kk _ (by decide) (by decide))
 ·have h1 := (h.late.alloc o).kept hg (by
   cases hv : vd.ownBlock with
   | none => exact .inl rfl
   | some b => exact .inr (fun e => h.sdq b hv e.symm))
  exact z01 h1 (ks _ (by decide))
 ·have h1 := (h.sta.alloc o).kept hg (by
   cases hv : va.ownBlock with
   | none => exact .inl rfl
   | some b => exact .inr (fun e => h.saq b hv e.symm))
  exact z01 h1 (ks _ (by decide))
 ·have h1 := z01 hown (ks _ (by decide))
  have e : intsV C.waits ++ [.int .i64 (t : Int)] = intsV (C.waits ++ [t]) := (z0p _ _).symm
  rw [e] at h1
  simpa using h1
 ·intro b hb e
  have e' : g' = b := by simpa [Value.ownBlock] using e
  exact hfar vd b hb (h.late.lt b hb).2 (h.sdq b hb) e'.symm
 ·intro b hb e
  have e' : g' = b := by simpa [Value.ownBlock] using e
  exact hfar va b hb (h.sta.lt b hb).2 (h.saq b hb) e'.symm
 ·intro b hb
  rcases hb with hb | hb | hb | hb | hb | hb | hb | ⟨m', hm', hb⟩
  ·exact h.out b (.inl hb)
  ·exact h.out b (.inr (.inl hb))
  ·exact h.out b (.inr (.inr (.inl hb)))
  ·exact h.out b (.inr (.inr (.inr (.inl hb))))
  ·exact h.out b (.inr (.inr (.inr (.inr (.inl hb)))))
  ·exact h.out b (.inr (.inr (.inr (.inr (.inr (.inl hb))))))
  ·have e' : g' = b := by simpa [Value.ownBlock] using hb
   subst e'
   rcases hat with h1 | h1
   ·exact h.out g' (.inr (.inr (.inr (.inr (.inr (.inr (.inl h1)))))))
   ·intro hR
    have := h.plan.1 _ hR
    omega
  ·exact h.out b (.inr (.inr (.inr (.inr (.inr (.inr (.inr ⟨m', hm', hb⟩)))))))
theorem z1e {w w1 : World} {o : Obj} {row : Option Nat} (h : (w.alloc o).grownBy w1 row) : Only (fun b => row = some b) w w1 :=
 ⟨h.os, h.tape, h.output, by have := h.size; simp at this; omega, fun k hk hf => by
  rw [h.block k (by simp; omega) (fun e => hf e.symm)]
  exact Below.heap_alloc _ _ _ hk⟩
def RBx.askA (C : RBx) (t : Nat) : Nat :=
 if C.sta.getD t 0 = (C.L.tn t).jny.length then 100 else if 0 < z1b C.waits t then 116 else if C.waits.length = C.L.Q then 102 else 113
def RBx.ask (C : RBx) (t : Nat) : RBx := if C.askA t = 113 then { C with waits := C.waits ++ [t] } else C
set_option maxRecDepth 100000 in
set_option maxHeartbeats 8000000 in
theorem rask_any (R : Nat -> Prop) (g : Nat) (C : RBx) (vh vr vt vl vw vf vd va vq : Value) (ms : List Value) (t : Nat) (w : World) (h : RM w R g C vh vr vt vl vw vf vd va vq ms)
  (ht : t < C.L.tns.length) (hts : t < C.sta.length) (hwl : C.waits.length <= 1000) :
  Calls Tryz.prog 149 #[.pointer (some ⟨g, 0, none⟩), .int .i64 t] w fun e w' => e = .returned (.int .u8 (C.askA t)) ∧
   (∃ vq', RM w' R g (C.ask t) vh vr vt vl vw vf vd va vq' ms /\ (vq' = vq \/ ∀ b, vq'.ownBlock = some b -> vq.ownBlock = some b \/ w.heap.size <= b)) /\ Only (fun b => b = g \/ vq.ownBlock = some b) w w' := by
 have HTM := zh (z0m vq C.waits (t : Int) w (Ints.ofOwn h.waits rfl))
 obtain ⟨at_, ct, rfl, -, hmt, t3⟩ := SlAt.open (h.plan.2 w (fun _ _ => rfl)).2.2
 obtain ⟨gt, ot, rfl, hgt, cs, -, hC, hc⟩ := t3 t ht
 obtain ⟨vj, rfl, hJ⟩ := hC
 obtain ⟨aj, cj, rfl, -⟩ := SlAt.open hJ
 have d1 := hc 1 (by omega)
 simp at d1
 obtain ⟨ga, ca, rfl, ha1, ha2, hga⟩ := z0s h.sta (by omega)
 obtain ⟨aq, cq, rfl⟩ := z03 h.waits
 have xa : w.cell? ⟨ga, t, none⟩ = some (.int .i64 (C.sta.getD t 0 : Nat)) := by
  rw [h.sta.cellAt t (by omega), z0b _ _ _ hts]; simp [intsV, hts]
 obtain ⟨⟨q3, q4, q5, q6, q7, q8, q9, q10, q11⟩, ⟨-, -, -, -, -, f11⟩, qg⟩ := box12 h.box
 have q2 := z0c h.box 2
 simp at q2
 have htn : C.L.tn t = C.L.tns[t] := tn_eq C.L t ht
 have HAS := zh (RBx.ask.eq_1 C t)
 have HAA := zh (RBx.askA.eq_1 C t)
 rw [htn] at HAA
 have HM := zh h
 have hga2 : ga < w.heap.size := hga
 unfold maxLen at hmt ha2
 have m1 : (t : Int) < C.L.tns.length := by omega
 have m2 : (t : Int) < C.sta.length := by omega
 obtain ⟨i0, hi0⟩ := info_parts Tryz.infoInt
 have HII := zh hi0
 have HBX := zh h.box
 have HOW := zh h.waits
 clear hi0 t3 hc hJ h htn
 obtain ⟨Z, hZ⟩ : ∃ Z, C.askA t = Z := ⟨_, rfl⟩
 rw [hZ] at HAS HAA ⊢
 clear hZ
 obtain ⟨s1, hs1⟩ : ∃ s, C.sta.getD t 0 = s := ⟨_, rfl⟩
 rw [hs1] at xa HAA
 clear hs1
 obtain ⟨jl, hjl⟩ : ∃ n, C.L.tns[t].jny.length = n := ⟨_, rfl⟩
 rw [hjl] at d1 HAA
 clear hjl
 obtain ⟨tz, htz⟩ : ∃ z, z1b C.waits (t : Int) = z := ⟨_, rfl⟩
 rw [htz] at HTM HAA
 clear htz
 generalize hnt : C.L.tns.length = nt at *
 generalize hns : C.sta.length = ns at *
 generalize hnw : C.waits.length = nw at *
 generalize hqq : C.L.Q = qq at *
 have HNN := zh (And.intro hnt (And.intro hns (And.intro hnw hqq)))
 clear hnt hns hnw hqq
 have HSAME := zh (show ∀ n, RM (w.drewN n) R g C vh vr (.slice (some ⟨gt, ot, none⟩) nt ct) vl vw vf vd (.slice (some ⟨ga, 0, none⟩) ns ca) (.slice aq nw cq) ms /\ Only (fun b => b = g \/ (Value.slice aq nw cq).ownBlock = some b) w (w.drewN n) from fun n =>
  ⟨(uh HM).below (below_drewN (Below.refl _ _) n), Only.of_below (below_drewN (Below.refl _ _) n)⟩)
 have HOWN := zh (show ∀ n, (w.drewN n).ownsRow 0 3 1 (.slice aq nw cq) nw (intsV C.waits) from fun n => uh HOW)
 have HBXN := zh (show ∀ n, (w.drewN n).heap[g]? = _ from fun n => uh HBX)
 by_cases h1 : s1 = jl
 ·have b1 : ((s1 : Int) == jl) = true := by simp [h1]
  rw [if_pos h1] at HAA
  have hz : Z = 100 := uh HAA
  subst hz
  rw [if_neg (by simp)] at HAS
  go_enter Tryz.func149, Tryz.ntmps149
  go_wp2_with (go_at_call 155; refine (uh HTM).mono ?_; rintro e w' ⟨rfl, rfl⟩)
  go_quiet (fail)
  go_wp2
  go_ret
  exact ⟨rfl, ⟨_, by rw [uh HAS]; exact (uh HSAME _).1, .inl rfl⟩, (uh HSAME _).2⟩
 ·have b1 : ((s1 : Int) == jl) = false := by simp; omega
  rw [if_neg h1] at HAA
  clear h1
  by_cases h2 : 0 < tz
  ·rw [if_pos h2] at HAA
   have hz : Z = 116 := uh HAA
   subst hz
   rw [if_neg (by simp)] at HAS
   go_enter Tryz.func149, Tryz.ntmps149
   go_wp2_with (go_at_call 155; refine (uh HTM).mono ?_; rintro e w' ⟨rfl, rfl⟩)
   go_quiet (fail)
   go_wp2
   go_ret
   exact ⟨rfl, ⟨_, by rw [uh HAS]; exact (uh HSAME _).1, .inl rfl⟩, (uh HSAME _).2⟩
  ·rw [if_neg h2] at HAA
   have h2' : ¬ (0 : Int) < tz := h2
   by_cases h3 : nw = qq
   ·have b3 : ((nw : Int) == qq) = true := by simp [h3]
    rw [if_pos h3] at HAA
    have hz : Z = 102 := uh HAA
    subst hz
    rw [if_neg (by simp)] at HAS
    clear h3
    go_enter Tryz.func149, Tryz.ntmps149
    go_wp2_with (go_at_call 155; refine (uh HTM).mono ?_; rintro e w' ⟨rfl, rfl⟩)
    go_quiet (fail)
    go_wp2
    go_quiet (fail)
    go_wp2
    go_ret
    first
     | exact ⟨rfl, ⟨_, by rw [uh HAS]; exact (uh HSAME _).1, .inl rfl⟩, (uh HSAME _).2⟩
     | exact ⟨rfl, ⟨_, by rw [uh HAS]; exact (uh HSAME _).1.below (below_drewN (Below.refl _ _) _), .inl rfl⟩, (uh HSAME _).2.trans (Only.of_below (below_drewN (Below.refl _ _) _))⟩
   ·have b3 : ((nw : Int) == qq) = false := by simp; omega
    rw [if_neg h3] at HAA
    have hz : Z = 113 := uh HAA
    subst hz
    rw [if_pos rfl] at HAS
    clear h3
    go_enter Tryz.func149, Tryz.ntmps149
    go_wp2_with (go_at_call 155; refine (uh HTM).mono ?_; rintro e w' ⟨rfl, rfl⟩)
    go_quiet (fail)
    go_wp2
    go_quiet (fail)
    go_wp2_with (at_builtin; refine wpList_append_lies _ rfl _ _ 50 rfl 0 3 i0 (.int .i64 0) 1 8 Tryz.underlying50 (uh HII).1 (uh HII).2.1 (uh HII).2.2.1 (uh HII).2.2.2 rfl (by decide) (.slice aq nw cq) nw (intsV C.waits) rfl (World.ownsRow.alloc (uh HOWN _) _) ⟨w'.heap.size, 0, none⟩ 1 1 [.int .i64 t] rfl rfl (z0o _ _ _) (z0a rfl) (by decide) (by unfold maxLen; omega) (by omega) (Nat.zero_le _) _ rfl ?_; intro g4 c4 w4 hown4 hgrow4 hat4 hlt4; have hbx4 := (z07 (uh HOWN _) hgrow4 (by decide) _ _ _ (uh HBXN _)).trans (uh HBXN _); obtain ⟨⟨p3, p4, p5, p6, p7, p8, p9, p10, p11⟩, ⟨-, -, -, -, -, f411⟩, qg4⟩ := box12 hbx4)
    have hn := (uh HNN).2.2.1
    have hat5 := hat4.imp (fun e => e) (fun e => show g4 = w'.heap.size + 1 by rw [e]; simp)
    have hRM := ((uh HSAME _).1).appendWaits (t := t) (by rw [hn]; exact hown4) hgrow4 hat5
    rw [hn] at hRM
    have hO := ((Only.of_below (below_drewN (Below.refl w'.heap.size w') _)).trans ((z1e hgrow4).mono (G := fun b => b = g \/ (Value.slice aq nw cq).ownBlock = some b) (fun k hk => Or.inr hk))).trans (Only.setCell (a := ⟨g, 11, none⟩) (Or.inl rfl) (.slice (some ⟨g4, 0, none⟩) (nw + 1) c4))
    have HFIN := zh (And.intro hRM (And.intro hO hat5))
    clear hRM hO hat5 hat4 hgrow4 hown4 hbx4
    go_ret
    refine ⟨rfl, ⟨_, by rw [uh HAS]; exact (uh HFIN).1, .inr (fun b hb => ?_)⟩, (uh HFIN).2.1⟩
    have e' : g4 = b := by simpa [Value.ownBlock] using hb
    subst e'
    rcases (uh HFIN).2.2 with h | h
    ·exact .inl h
    ·exact .inr (by omega)
def RBx.doA (C : RBx) (c x : Nat) : Nat :=
 if c = 114 then C.askA (x - 49) else if c = 99 then (if C.canc (x - 65) then 107 else 110) else if C.failed.getD (x - 97) false then 109 else 110
def RBx.doC (C : RBx) (f : Fr) (c x : Nat) : RBx :=
 if c = 114 then C.ask (x - 49) else if c = 99 then C.cancel f (x - 65) else if C.failed.getD (x - 97) false then { C with failed := C.failed.set (x - 97) false } else C
set_option maxRecDepth 100000 in
set_option maxHeartbeats 8000000 in
theorem rdo_any (R P : Nat -> Prop) (g : Nat) (C : RBx) (vh vr vt vl vw vf vd va vq : Value) (ms : List Value) (vfr : Value) (f : Fr) (c x : Nat) (w : World) (h : RM w R g C vh vr vt vl vw vf vd va vq ms) (hf : FrIn P w vfr f)
  (hx : x < 256) (hcmd : C.L.cmdB c x = true) (hP : ∀ b, P b -> vl.ownBlock ≠ some b /\ vf.ownBlock ≠ some b /\ vq.ownBlock ≠ some b /\ b ≠ g)
  (hl : C.lines.length = C.L.rts.length) (hst : C.sta.length = C.L.tns.length) (hfl : C.failed.length = C.L.sw.length) (hwl : C.waits.length <= 1000) (hft : ∀ r, r < C.L.rts.length -> (C.L.rt r).foot < f.occ.length) :
  Calls Tryz.prog 101 #[.pointer (some ⟨g, 0, none⟩), .int .u8 c, .int .u8 x, vfr] w fun e w' => e = .returned (.int .u8 (C.doA c x)) ∧
   (∃ vq', RM w' R g (C.doC f c x) vh vr vt vl vw vf vd va vq' ms /\ (vq' = vq \/ ∀ b, vq'.ownBlock = some b -> vq.ownBlock = some b \/ w.heap.size <= b)) /\ FrIn P w' vfr f ∧
   Only (fun b => b = g \/ vl.ownBlock = some b \/ vf.ownBlock = some b \/ vq.ownBlock = some b) w w' := by
 obtain ⟨vo, vp, rfl, hO, hPr⟩ := hf.at
 obtain ⟨ao, co, rfl, -⟩ := SlAt.open hO
 obtain ⟨ap2, cp2, rfl, -⟩ := SlAt.open hPr
 have HB0 := zh (z02 w (.cells #[.slice ao f.occ.length co, .slice ap2 f.rep.length cp2, .string f.cmds] 163))
 obtain ⟨w0, hw0⟩ : ∃ w0, w0 = w.alloc (.cells #[.slice ao f.occ.length co, .slice ap2 f.rep.length cp2, .string f.cmds] 163) := ⟨_, rfl⟩
 rw [<- hw0] at HB0
 have h0 := h.below (uh HB0)
 have hf0 := hf.below (uh HB0)
 unfold Lay.cmdB at hcmd
 have u1 : IntKind.i64.wrap (x : Int) = x := Go.IntWalk.i64_in _ (by omega)
 have HFG := zh (show ∀ (W : World), Only (fun b => b = g \/ vl.ownBlock = some b \/ vf.ownBlock = some b \/ vq.ownBlock = some b) w0 W →
   FrIn P W (.agg #[.slice ao f.occ.length co, .slice ap2 f.rep.length cp2, .string f.cmds]) f /\ Only (fun b => b = g \/ vl.ownBlock = some b \/ vf.ownBlock = some b \/ vq.ownBlock = some b) w W from fun W hW =>
  ⟨hf0.only hW (fun b hb hh => by
   obtain ⟨p1, p2, p3, p4⟩ := hP b hb
   rcases hh with hh | hh | hh | hh
   ·exact p4 hh
   ·exact p1 hh
   ·exact p2 hh
   ·exact p3 hh), (Only.of_below (uh HB0)).trans hW⟩)
 by_cases c1 : c = 114
 ·subst c1
  rw [if_pos rfl] at hcmd
  have hn : 49 <= x /\ x < 49 + C.L.tns.length := by
   unfold numF at hcmd
   split at hcmd
   ·assumption
   ·simp at hcmd
  have HA := zh (rask_any R g C vh vr vt vl vw vf vd va vq ms (x - 49) w0 h0 (by omega) (by omega) hwl)
  obtain ⟨t, ht⟩ : ∃ t : Nat, (x : Int) - 49 = t := ⟨x - 49, by omega⟩
  rw [show x - 49 = t by omega] at HA
  have HDA := zh (show C.doA 114 x = C.askA t by unfold RBx.doA; rw [if_pos rfl, show x - 49 = t by omega])
  have HDC := zh (show C.doC f 114 x = C.ask t by unfold RBx.doC; rw [if_pos rfl, show x - 49 = t by omega])
  have u2 : IntKind.i64.wrap ((x : Int) - 49) = (t : Int) := by rw [ht]; exact Go.IntWalk.i64_in _ (by omega)
  rw [uh HDA]
  subst hw0
  clear hcmd hn h hf h0 hf0 hO hPr
  go_enter Tryz.func101, Tryz.ntmps101
  go_wp2_with fail
  refine (uh HA).mono ?_
  rintro e w1 ⟨rfl, ⟨vq', hR, hq⟩, hO1⟩
  have HH := zh (And.intro hR (And.intro hq hO1))
  clear hR hq hO1
  go_wp2
  go_ret
  obtain ⟨c2, c3⟩ := uh HFG _ ((uh HH).2.2.mono (fun k hk => hk.elim Or.inl (fun h => Or.inr (Or.inr (Or.inr h)))))
  refine ⟨rfl, ⟨vq', by rw [uh HDC]; exact (uh HH).1, (uh HH).2.1.imp (fun e => e) (fun e b hb => (e b hb).imp (fun e => e) (fun e => Nat.le_trans (uh HB0).size e))⟩, c2, c3⟩
 ·rw [if_neg c1] at hcmd
  have b1 : ((c : Int) == 114) = false := by simp; omega
  by_cases c2 : c = 99
  ·subst c2
   rw [if_pos rfl] at hcmd
   have hn : 65 <= x /\ x < 65 + C.L.rts.length := by
    unfold numF at hcmd
    split at hcmd
    ·assumption
    ·simp at hcmd
   have HA := zh (rcancel_any R P g C vh vr vt vl vw vf vd va vq ms _ f (x - 65) w0 h0 hf0 (by omega) (by rw [h.mlen]; omega) (fun b hb => (hP b hb).1) (by omega) (hft _ (by omega)))
   obtain ⟨t, ht⟩ : ∃ t : Nat, (x : Int) - 65 = t := ⟨x - 65, by omega⟩
   rw [show x - 65 = t by omega] at HA
   have HDA := zh (show C.doA 99 x = if C.canc t then 107 else 110 by unfold RBx.doA; rw [if_neg (by decide), if_pos rfl, show x - 65 = t by omega])
   have HDC := zh (show C.doC f 99 x = C.cancel f t by unfold RBx.doC; rw [if_neg (by decide), if_pos rfl, show x - 65 = t by omega])
   have u2 : IntKind.i64.wrap ((x : Int) - 65) = (t : Int) := by rw [ht]; exact Go.IntWalk.i64_in _ (by omega)
   rw [uh HDA]
   generalize (if C.canc t then 107 else 110 : Nat) = Z at *
   subst hw0
   clear hcmd hn h hf h0 hf0 hO hPr c1
   go_enter Tryz.func101, Tryz.ntmps101
   go_wp2_with fail
   refine (uh HA).mono ?_
   rintro e w1 ⟨rfl, hR, hF, hO1⟩
   have HH := zh (And.intro hR hO1)
   clear hR hF hO1
   go_wp2
   go_ret
   obtain ⟨c2, c3⟩ := uh HFG _ ((uh HH).2.mono (fun k hk => Or.inr (Or.inl hk)))
   exact ⟨rfl, ⟨_, by rw [uh HDC]; exact (uh HH).1, .inl rfl⟩, c2, c3⟩
  ·rw [if_neg c2] at hcmd
   have b2 : ((c : Int) == 99) = false := by simp; omega
   have hn : 97 <= x /\ x < 97 + C.L.sw.length := by
    split at hcmd
    ·unfold numF at hcmd
     split at hcmd
     ·rename_i s hs
      split at hs
      ·assumption
      ·cases hs
     ·cases hcmd
    ·cases hcmd
   obtain ⟨s, hs⟩ : ∃ s : Nat, (x : Int) - 97 = s := ⟨x - 97, by omega⟩
   have hse : x - 97 = s := by omega
   have hsl : s < C.failed.length := by omega
   have u2 : IntKind.i64.wrap ((x : Int) - 97) = (s : Int) := by rw [hs]; exact Go.IntWalk.i64_in _ (by omega)
   have HDA := zh (show C.doA c x = if C.failed.getD s false then 109 else 110 by unfold RBx.doA; rw [if_neg c1, if_neg c2, hse])
   have HDC := zh (show C.doC f c x = if C.failed.getD s false then { C with failed := C.failed.set s false } else C by unfold RBx.doC; rw [if_neg c1, if_neg c2, hse])
   obtain ⟨gf, cf, hvf, hf1, hf2, hgf⟩ := z0s h0.failed (by omega)
   subst hvf
   have HGW := zh (h.failed.lt gf rfl).2
   have xf : w0.cell? ⟨gf, s, none⟩ = some (.bool (C.failed.getD s false)) := by
    rw [h0.failed.cellAt s (by omega), z0b _ _ _ hsl]; simp [z0t, hsl]
   have zf := h0.failed.frozenAt s
   obtain ⟨⟨q3, q4, q5, q6, q7, q8, q9, q10, q11⟩, -, qg⟩ := box12 h0.box
   have m1 : (s : Int) < C.failed.length := by omega
   have m2 : (0 : Int) <= s := by omega
   unfold maxLen at hf2
   have HM0 := zh h0
   subst hw0
   clear hcmd hn h hf h0 hf0 hO hPr c1 c2 hP hse
   obtain ⟨b, hb⟩ : ∃ b, C.failed.getD s false = b := ⟨_, rfl⟩
   rw [hb] at xf HDA HDC
   clear hb
   cases b with
   | false =>
    rw [if_neg (by simp)] at HDA HDC
    rw [uh HDA]
    go_enter Tryz.func101, Tryz.ntmps101
    go_wp2
    go_ret
    obtain ⟨c2, c3⟩ := uh HFG _ (Only.refl _ _)
    exact ⟨rfl, ⟨_, by rw [uh HDC]; exact uh HM0, .inl rfl⟩, c2, c3⟩
   | true =>
    rw [if_pos rfl] at HDA HDC
    rw [uh HDA]
    have HR := zh ((uh HM0).setFailed rfl s false)
    have HOO := zh (Only.setCell (F := fun b => b = g \/ vl.ownBlock = some b \/ (Value.slice (some ⟨gf, 0, none⟩) C.failed.length cf).ownBlock = some b \/ vq.ownBlock = some b) (w := w.alloc (.cells #[.slice ao f.occ.length co, .slice ap2 f.rep.length cp2, .string f.cmds] 163)) (a := ⟨gf, s, none⟩) (Or.inr (Or.inr (Or.inl rfl))) (.bool false))
    have hgw := uh HGW
    rw [World.setCell_alloc_past _ _ _ _ hgw] at HR HOO
    go_enter Tryz.func101, Tryz.ntmps101
    go_wp2
    go_ret
    obtain ⟨c2, c3⟩ := uh HFG _ (uh HOO)
    exact ⟨rfl, ⟨_, by rw [uh HDC]; exact uh HR, .inl rfl⟩, c2, c3⟩
set_option maxHeartbeats 400000 in
theorem with_own (v : Value) (l : List Nat) (t n : Nat) (w : World) (h : Ints w v l) (hl : l.length <= 1000) :
  Calls Tryz.prog 108 #[v, .int .i64 t, .int .i64 n] w fun e w' => ∃ v', e = .returned v' /\ w'.ownsRow w.heap.size 3 1 v' l.length (intsV (l.set t n)) /\ Below w.heap.size w w' := by
 obtain ⟨ao, cap, rfl, h1, h2, h3⟩ := SlAt.open h
 clear h
 unfold maxLen at h2
 obtain ⟨i0, hi, hz0, hz1, hz2⟩ := info_parts Tryz.infoInt
 go_enter Tryz.func108, Tryz.ntmps108
 go_wp2
 go_loopw [7, 8] (fun r i wr => ∃ k : Nat, k <= l.length /\ i = .int .i64 k /\ wr.ownsRow w.heap.size 3 1 r k (intsV ((l.set t n).take k)) ∧
   Below w.heap.size w wr) (fun _ i _ => l.length - (intOf i).toNat)
 case atStart => exact ⟨0, Nat.zero_le _, rfl, World.ownsRow_nil _ _ _ _, Below.refl _ _⟩
 case round =>
  obtain ⟨k, hk, rfl, hown, hb⟩ := hrel
  have hsz := hb.size
  obtain ⟨p, hp⟩ : ∃ p, p = (l.set t n).take k := ⟨_, rfl⟩
  rw [<- hp] at hown
  have HP := zh hp
  clear hp
  by_cases hlt : k < l.length
  ·obtain ⟨g, off, hao, hg, cs, -, hC, hc⟩ := h3 k hlt
   subst hao
   unfold CInt at hC
   subst hC
   have hc0 := hc 0 (by omega)
   rw [<- hb.cell (p := ⟨g, _, none⟩) hg] at hc0
   have HS := zh (set_take l t n k hlt)
   clear hc h3
   simp at hc0
   have HB := zh hb
   clear hb
   by_cases hkt : k = t
   ·subst hkt
    go_wp2_with (at_builtin; refine wpList_append_own _ rfl _ _ 50 rfl w.heap.size 3 i0 (.int .i64 0) 1 8 Tryz.underlying50 hi hz0 hz1 hz2 rfl (by decide) _ _ _ rfl (hown.alloc _) ⟨wr.heap.size, 0, none⟩ 1 1 [.int .i64 n] rfl rfl (z0o _ _ _) (z0a rfl) (by unfold maxLen; omega) (by omega) (by simp; omega) ?_; intro v' w1 hown' hgrow _)
    have hb' := z0l (uh HB) (by omega) hown hgrow
    clear hgrow hown
    go_wp2
    exact ⟨⟨k + 1, by omega, by go_num, by rw [uh HS, if_pos rfl, <- uh HP, z0p]; exact hown', hb'⟩, by simp [intOf]; omega⟩
   ·have hkt' : ((k : Int) == (t : Int)) = false := by simp; omega
    go_wp2_with (at_builtin; refine wpList_append_own _ rfl _ _ 50 rfl w.heap.size 3 i0 (.int .i64 0) 1 8 Tryz.underlying50 hi hz0 hz1 hz2 rfl (by decide) _ _ _ rfl (hown.alloc _) ⟨wr.heap.size, 0, none⟩ 1 1 [.int .i64 (l[k] : Nat)] rfl rfl (z0o _ _ _) (z0a rfl) (by unfold maxLen; omega) (by omega) (by simp; omega) ?_; intro v' w1 hown' hgrow _)
    have hb' := z0l (uh HB) (by omega) hown hgrow
    clear hgrow hown
    go_wp2
    exact ⟨⟨k + 1, by omega, by go_num, by rw [uh HS, if_neg hkt, <- uh HP, z0p]; exact hown', hb'⟩, by simp [intOf]; omega⟩
  ·have hn : k = l.length := by omega
   subst hn
   have hfin := zh hown
   rw [uh HP, List.take_of_length_le (by simp)] at hfin
   clear h3 hown HP
   go_wp2
   go_ret
   exact ⟨u7, rfl, uh hfin, hb⟩
theorem z2x {w : World} {b b' : Nat} {e : TypeId} {sz : Nat} {v : Value} {n : Nat} {xs : List Value} (h : w.ownsRow b e sz v n xs) (hb : b' <= b) : w.ownsRow b' e sz v n xs := by
 refine ⟨h.1, ?_⟩
 rcases h.2 with h2 | ⟨g, cap, cur, hv, hg, r⟩
 ·exact .inl h2
 ·exact .inr ⟨g, cap, cur, hv, Nat.le_trans hb hg, r⟩
theorem z3t {w w' : World} {F : Nat -> Prop} {b : Nat} {e : TypeId} {sz : Nat} {v : Value} {n : Nat} {xs : List Value} (h : w.ownsRow b e sz v n xs) (ho : Only F w w') (hn : ∀ k, v.ownBlock = some k -> ¬ F k) : w'.ownsRow b e sz v n xs :=
 z1d (P := fun k => k < w.heap.size /\ ¬ F k) h (fun k hk => ho.block k hk.1 hk.2) (fun k hk => ⟨(h.lt k hk).2, hn k hk⟩)
def rOwn (g : Nat) (vl vw vf vd va vq : Value) (ms : List Value) (b : Nat) : Prop := b = g \/ vl.ownBlock = some b \/ vw.ownBlock = some b \/ vf.ownBlock = some b \/ vd.ownBlock = some b \/ va.ownBlock = some b \/ vq.ownBlock = some b \/ ∃ m, m ∈ ms /\ m.ownBlock = some b
def RBoxQ (w : World) (D : Nat -> Prop) (g : Nat) (C : RBx) (vq : Value) : Prop := ∃ R vh vr vt vl vw vf vd va ms, RM w R g C vh vr vt vl vw vf vd va vq ms /\ (∀ b, R b -> D b) /\ (∀ b, D b -> b < w.heap.size) /\ ∀ b, rOwn g vl vw vf vd va vq ms b -> D b
def RBoxIn (w : World) (D : Nat -> Prop) (g : Nat) (C : RBx) : Prop := ∃ vq, RBoxQ w D g C vq
theorem RBoxQ.at {w : World} {D : Nat -> Prop} {g : Nat} {C : RBx} {vq : Value} (h : RBoxQ w D g C vq) : RBoxAt w g C := by
 obtain ⟨R, vh, vr, vt, vl, vw, vf, vd, va, ms, h, -⟩ := h
 exact h.at
theorem RBoxIn.at {w : World} {D : Nat -> Prop} {g : Nat} {C : RBx} (h : RBoxIn w D g C) : RBoxAt w g C := by
 obtain ⟨vq, h⟩ := h
 exact h.at
theorem RBoxQ.lt {w : World} {D : Nat -> Prop} {g : Nat} {C : RBx} {vq : Value} (h : RBoxQ w D g C vq) : ∀ b, D b -> b < w.heap.size := by
 obtain ⟨R, vh, vr, vt, vl, vw, vf, vd, va, ms, h, -, h2, -⟩ := h
 exact h2
theorem RBoxIn.lt {w : World} {D : Nat -> Prop} {g : Nat} {C : RBx} (h : RBoxIn w D g C) : ∀ b, D b -> b < w.heap.size := by
 obtain ⟨vq, h⟩ := h
 exact h.lt
theorem RM.only {w w' : World} {R F : Nat -> Prop} {g : Nat} {C : RBx} {vh vr vt vl vw vf vd va vq : Value} {ms : List Value} (h : RM w R g C vh vr vt vl vw vf vd va vq ms) (ho : Only F w w') (hR : ∀ b, R b -> ¬ F b) (hF : ∀ b, rOwn g vl vw vf vd va vq ms b -> ¬ F b) : RM w' R g C vh vr vt vl vw vf vd va vq ms := by
 have hh : ∀ {e : TypeId} {sz n : Nat} {v : Value} {xs : List Value}, w.ownsRow 0 e sz v n xs -> (∀ b, v.ownBlock = some b -> ¬ F b) -> w'.ownsRow 0 e sz v n xs := fun {e sz n v xs} hr hv => by
  refine ⟨hr.1, ?_⟩
  rcases id hr.2 with h2 | ⟨g2, cap, cur, hv2, hg2, hh2, r⟩
  ·exact .inl h2
  ·exact .inr ⟨g2, cap, cur, hv2, hg2, (ho.block g2 (z0f hh2) (hv g2 (by rw [hv2]; rfl))).trans hh2, r⟩
 exact { h with
  box := (ho.block g (z0f h.box) (hF g (.inl rfl))).trans h.box
  plan := h.plan.only ho hR
  lines := hh h.lines (fun b hb => hF b (.inr (.inl hb)))
  marks := fun i a b => hh (h.marks i a b) (fun k hk => hF k (.inr (.inr (.inr (.inr (.inr (.inr (.inr ⟨_, List.getElem_mem a, hk⟩))))))))
  wanted := hh h.wanted (fun b hb => hF b (.inr (.inr (.inl hb))))
  failed := hh h.failed (fun b hb => hF b (.inr (.inr (.inr (.inl hb)))))
  late := hh h.late (fun b hb => hF b (.inr (.inr (.inr (.inr (.inl hb))))))
  sta := hh h.sta (fun b hb => hF b (.inr (.inr (.inr (.inr (.inr (.inl hb)))))))
  waits := hh h.waits (fun b hb => hF b (.inr (.inr (.inr (.inr (.inr (.inr (.inl hb)))))))) }
theorem RBoxQ.only {w w' : World} {D F : Nat -> Prop} {g : Nat} {C : RBx} {vq : Value} (h : RBoxQ w D g C vq) (ho : Only F w w') (hd : ∀ k, D k -> ¬ F k) : RBoxQ w' D g C vq := by
 obtain ⟨R, vh, vr, vt, vl, vw, vf, vd, va, ms, h, h1, h2, h3⟩ := h
 exact ⟨R, vh, vr, vt, vl, vw, vf, vd, va, ms, h.only ho (fun b hb => hd b (h1 b hb)) (fun b hb => hd b (h3 b hb)), h1, fun b hb => Nat.lt_of_lt_of_le (h2 b hb) ho.size, h3⟩
theorem RBoxQ.mono {w : World} {D D' : Nat -> Prop} {g : Nat} {C : RBx} {vq : Value} (h : RBoxQ w D g C vq) (hd : ∀ b, D b -> D' b) (hz : ∀ b, D' b -> b < w.heap.size) : RBoxQ w D' g C vq := by
 obtain ⟨R, vh, vr, vt, vl, vw, vf, vd, va, ms, h, h1, h2, h3⟩ := h
 exact ⟨R, vh, vr, vt, vl, vw, vf, vd, va, ms, h, fun b hb => hd b (h1 b hb), hz, fun b hb => hd b (h3 b hb)⟩
def growR (D : Nat -> Prop) (w w' : World) (b : Nat) : Prop := D b \/ (w.heap.size <= b /\ b < w'.heap.size)
theorem growR_lt {w : World} {D : Nat -> Prop} (hD : ∀ b, D b -> b < w.heap.size) {w' : World} (hz : w.heap.size <= w'.heap.size) : ∀ b, growR D w w' b -> b < w'.heap.size := fun b hb => by
 rcases hb with hb | hb
 ·have := hD b hb; omega
 ·exact hb.2
theorem Only.farR {F G : Nat -> Prop} {a b c : World} (h : Only F a b) (k : Only G b c) (hG : ∀ i, i < a.heap.size -> G i -> F i) : Only F a c :=
 ⟨k.os.trans h.os, k.tape.trans h.tape, k.output.trans h.output, Nat.le_trans h.size k.size, fun i hi hf => (k.block i (Nat.lt_of_lt_of_le hi h.size) (fun hg => hf (hG i hi hg))).trans (h.block i hi hf)⟩
structure RF (w : World) (D P : Nat -> Prop) (g : Nat) (C : RBx) (vfr : Value) (f : Fr) (vq : Value) : Prop where
 box : RBoxQ w D g C vq
 frame : FrIn P w vfr f
 apart : ∀ b, P b -> ¬ D b
theorem RF.below {w w' : World} {D P : Nat -> Prop} {g : Nat} {C : RBx} {vfr : Value} {f : Fr} {vq : Value} (h : RF w D P g C vfr f vq) (hb : Below w.heap.size w w') : RF w' D P g C vfr f vq :=
 ⟨h.box.only (Only.of_below (F := fun _ => False) hb) (fun _ _ h => h), h.frame.below hb, h.apart⟩
theorem RF.up {w w' : World} {D P : Nat -> Prop} {g : Nat} {C : RBx} {vfr : Value} {f : Fr} {vq : Value} (h : RF w D P g C vfr f vq) (hb : Below w.heap.size w w') : RF w' (growR D w w') P g C vfr f vq :=
 ⟨(h.below hb).box.mono (fun b hb => Or.inl hb) (growR_lt h.box.lt hb.size), (h.below hb).frame, fun b hbP hh => by
   rcases hh with hh | hh
   ·exact h.apart b hbP hh
   ·have := h.frame.1 b hbP; omega⟩
theorem RM.lt {w : World} {R : Nat -> Prop} {g : Nat} {C : RBx} {vh vr vt vl vw vf vd va vq : Value} {ms : List Value} (h : RM w R g C vh vr vt vl vw vf vd va vq ms) : ∀ b, rOwn g vl vw vf vd va vq ms b -> b < w.heap.size := by
 rintro b (rfl | hb | hb | hb | hb | hb | hb | ⟨m, hm, hb⟩)
 ·exact z0f h.box
 ·exact (h.lines.lt b hb).2
 ·exact (h.wanted.lt b hb).2
 ·exact (h.failed.lt b hb).2
 ·exact (h.late.lt b hb).2
 ·exact (h.sta.lt b hb).2
 ·exact (h.waits.lt b hb).2
 ·obtain ⟨i, hi, rfl⟩ := List.getElem_of_mem hm
  exact ((h.marks i hi (by rw [<- h.mlen]; exact hi)).lt b hb).2
theorem RF.make {w w' : World} {D P F : Nat -> Prop} {g : Nat} {C : RBx} {vfr : Value} {f : Fr} {R : Nat -> Prop} {vh vr vt vl vw vf vd va vq : Value} {ms : List Value} (hD : ∀ b, D b -> b < w.heap.size) (hA : ∀ b, P b -> ¬ D b) (hPl : ∀ b, P b -> b < w.heap.size) (hF : FrIn P w vfr f) (ho : Only F w w') (hFD : ∀ b, F b -> D b)
  (h : RM w' R g C vh vr vt vl vw vf vd va vq ms) (hR : ∀ b, R b -> D b) (hown : ∀ b, rOwn g vl vw vf vd va vq ms b -> D b \/ w.heap.size <= b) :
  RF w' (growR D w w') P g C vfr f vq /\ Only D w w' := by
 refine ⟨⟨⟨R, vh, vr, vt, vl, vw, vf, vd, va, ms, h, fun b hb => Or.inl (hR b hb), growR_lt hD ho.size, fun b hb => ?_⟩, hF.only ho (fun b hb hf => hA b hb (hFD b hf)), fun b hb hh => ?_⟩, ho.mono hFD⟩
 ·rcases hown b hb with h1 | h1
  ·exact Or.inl h1
  ·exact Or.inr ⟨h1, h.lt b hb⟩
 ·rcases hh with hh | hh
  ·exact hA b hb hh
  ·have := hPl b hb; omega
structure WatchOK (C : RBx) (f : Fr) : Prop where
 sw : C.L.sw.length <= 1000
 wl : C.wanted.length = C.L.sw.length
 fl : C.failed.length = C.L.sw.length
 dl : C.late.length = C.L.sw.length
 pl : f.rep.length = C.L.sw.length
 ll : C.lines.length <= C.L.rts.length
 r1 : C.L.rts.length <= 1000
 go : ∀ x, x ∈ C.lines -> x.gone <= 1000
 lb : ∀ x, x ∈ C.late -> x <= 1000
theorem watch_f (D P : Nat -> Prop) (g : Nat) (C : RBx) (vfr : Value) (f : Fr) (vq : Value) (w : World) (h : RF w D P g C vfr f vq) (hw : WatchOK C f) :
  Calls Tryz.prog 99 #[.pointer (some ⟨g, 0, none⟩), vfr] w fun e w' => e = .returned (.tuple #[]) /\ RF w' (growR D w w') P g (C.watch f) vfr f vq /\ Only D w w' := by
 obtain ⟨R, vh, vr, vt, vl, vw, vf, vd, va, ms, hM, h1, h2, h3⟩ := h.box
 refine (rwatch_any R P g C vh vr vt vl vw vf vd va vq ms vfr f w hM h.frame (fun b hb => ⟨fun e => h.apart b hb (h3 b (.inr (.inr (.inr (.inr (.inl e)))))), fun e => h.apart b hb (h3 b (.inr (.inr (.inr (.inl e)))))⟩) hw.sw hw.wl hw.fl hw.dl hw.pl hw.ll hw.r1 hw.go hw.lb).mono ?_
 rintro e w' ⟨rfl, hM', hF', hO'⟩
 refine ⟨rfl, RF.make h2 h.apart h.frame.1 h.frame hO' (fun b hb => ?_) hM' h1 (fun b hb => Or.inl (h3 b hb))⟩
 rcases hb with hb | hb
 ·exact h3 b (.inr (.inr (.inr (.inr (.inl hb)))))
 ·exact h3 b (.inr (.inr (.inr (.inl hb))))
theorem step_f (D P : Nat -> Prop) (g : Nat) (C : RBx) (vfr : Value) (f : Fr) (vq : Value) (r : Nat) (w : World) (h : RF w D P g C vfr f vq) (hr : r < C.lines.length) (hS : StepOK C f r) :
  Calls Tryz.prog 100 #[.pointer (some ⟨g, 0, none⟩), .int .i64 r, vfr] w fun e w' => e = .returned (.tuple #[]) /\ RF w' (growR D w w') P g (C.step f r) vfr f vq /\ Only D w w' := by
 obtain ⟨R, vh, vr, vt, vl, vw, vf, vd, va, ms, hM, h1, h2, h3⟩ := h.box
 have hrm : r < ms.length := by rw [hM.mlen]; exact hr
 have hm3 : ∀ m, m ∈ ms -> ∀ b, m.ownBlock = some b -> D b := fun m hm b hb => h3 b (.inr (.inr (.inr (.inr (.inr (.inr (.inr ⟨m, hm, hb⟩)))))))
 refine (rstep_any R P g C vh vr vt vl vw vf vd va vq ms vfr f r w hM h.frame hr hrm (fun b hb => ⟨fun e => h.apart b hb (h3 b (.inr (.inl e))), fun e => h.apart b hb (hm3 _ (List.getElem_mem hrm) b e), fun e => h.apart b hb (h3 b (.inr (.inr (.inr (.inr (.inr (.inl e)))))))⟩) hS).mono ?_
 rintro e w' ⟨rfl, ⟨m, hM', hm⟩, hF', hO'⟩
 refine ⟨rfl, RF.make h2 h.apart h.frame.1 h.frame hO' (fun b hb => ?_) hM' h1 (fun b hb => ?_)⟩
 ·rcases hb with hb | hb | hb
  ·exact h3 b (.inr (.inl hb))
  ·exact hm3 _ (List.getElem_mem hrm) b hb
  ·exact h3 b (.inr (.inr (.inr (.inr (.inr (.inl hb))))))
 ·rcases hb with hb | hb | hb | hb | hb | hb | hb | ⟨q, hq, hb⟩
  ·exact Or.inl (h3 b (.inl hb))
  ·exact Or.inl (h3 b (.inr (.inl hb)))
  ·exact Or.inl (h3 b (.inr (.inr (.inl hb))))
  ·exact Or.inl (h3 b (.inr (.inr (.inr (.inl hb)))))
  ·exact Or.inl (h3 b (.inr (.inr (.inr (.inr (.inl hb))))))
  ·exact Or.inl (h3 b (.inr (.inr (.inr (.inr (.inr (.inl hb)))))))
  ·exact Or.inl (h3 b (.inr (.inr (.inr (.inr (.inr (.inr (.inl hb))))))))
  ·rcases List.mem_or_eq_of_mem_set hq with h5 | h5
   ·exact Or.inl (hm3 q h5 b hb)
   ·subst h5
    rcases hm with h6 | h6
    ·rw [h6] at hb; exact Or.inl (hm3 _ (List.getElem_mem hrm) b hb)
    ·exact Or.inr (h6 b hb)
structure DoOK (C : RBx) (f : Fr) : Prop where
 l : C.lines.length = C.L.rts.length
 st : C.sta.length = C.L.tns.length
 fl : C.failed.length = C.L.sw.length
 wl : C.waits.length <= 1000
 ft : ∀ r, r < C.L.rts.length -> (C.L.rt r).foot < f.occ.length
theorem do_f (D P : Nat -> Prop) (g : Nat) (C : RBx) (vfr : Value) (f : Fr) (vq : Value) (c x : Nat) (w : World) (h : RF w D P g C vfr f vq) (hx : x < 256) (hcmd : C.L.cmdB c x = true) (hd : DoOK C f) :
  Calls Tryz.prog 101 #[.pointer (some ⟨g, 0, none⟩), .int .u8 c, .int .u8 x, vfr] w fun e w' => e = .returned (.int .u8 (C.doA c x)) /\ (∃ vq', RF w' (growR D w w') P g (C.doC f c x) vfr f vq') /\ Only D w w' := by
 obtain ⟨R, vh, vr, vt, vl, vw, vf, vd, va, ms, hM, h1, h2, h3⟩ := h.box
 refine (rdo_any R P g C vh vr vt vl vw vf vd va vq ms vfr f c x w hM h.frame hx hcmd (fun b hb => ⟨fun e => h.apart b hb (h3 b (.inr (.inl e))), fun e => h.apart b hb (h3 b (.inr (.inr (.inr (.inl e))))), fun e => h.apart b hb (h3 b (.inr (.inr (.inr (.inr (.inr (.inr (.inl e)))))))), fun e => h.apart b hb (h3 b (.inl e))⟩) hd.l hd.st hd.fl hd.wl hd.ft).mono ?_
 rintro e w' ⟨rfl, ⟨vq', hM', hq⟩, hF', hO'⟩
 have hm := RF.make h2 h.apart h.frame.1 h.frame hO' (fun b hb => by
  rcases hb with hb | hb | hb | hb
  ·exact h3 b (.inl hb)
  ·exact h3 b (.inr (.inl hb))
  ·exact h3 b (.inr (.inr (.inr (.inl hb))))
  ·exact h3 b (.inr (.inr (.inr (.inr (.inr (.inr (.inl hb)))))))) hM' h1 (fun b hb => by
  rcases hb with hb | hb | hb | hb | hb | hb | hb | hb
  ·exact Or.inl (h3 b (.inl hb))
  ·exact Or.inl (h3 b (.inr (.inl hb)))
  ·exact Or.inl (h3 b (.inr (.inr (.inl hb))))
  ·exact Or.inl (h3 b (.inr (.inr (.inr (.inl hb)))))
  ·exact Or.inl (h3 b (.inr (.inr (.inr (.inr (.inl hb))))))
  ·exact Or.inl (h3 b (.inr (.inr (.inr (.inr (.inr (.inl hb)))))))
  ·rcases hq with h5 | h5
   ·rw [h5] at hb
    exact Or.inl (h3 b (.inr (.inr (.inr (.inr (.inr (.inr (.inl hb))))))))
   ·rcases h5 b hb with h6 | h6
    ·exact Or.inl (h3 b (.inr (.inr (.inr (.inr (.inr (.inr (.inl h6))))))))
    ·exact Or.inr h6
  ·exact Or.inl (h3 b (.inr (.inr (.inr (.inr (.inr (.inr (.inr hb)))))))))
 exact ⟨rfl, ⟨vq', hm.1⟩, hm.2⟩
theorem RM.newSta {w : World} {R : Nat -> Prop} {g : Nat} {C : RBx} {vh vr vt vl vw vf vd va vq : Value} {ms : List Value} (h : RM w R g C vh vr vt vl vw vf vd va vq ms) (v : Value) (l : List Nat) (hv : w.ownsRow 0 3 1 v l.length (intsV l)) (hR : ∀ b, v.ownBlock = some b -> ¬ R b /\ vd.ownBlock ≠ some b /\ vq.ownBlock ≠ some b) :
  RM (w.setCell ⟨g, 10, none⟩ v) R g { C with sta := l } vh vr vt vl vw vf vd v vq ms := by
 have hT : Typed w g 159 := ⟨_, _, h.box⟩
 have kk := fun e (n2 : 159 ≠ e) => Keeps.setCell ⟨g, 10, none⟩ v hT n2
 have hs : SameOn R w (w.setCell ⟨g, 10, none⟩ v) := z0d (h.out g (.inl rfl))
 refine { box := ?_, plan := ?_, lines := ?_, mlen := h.mlen, marks := ?_, wanted := ?_, failed := ?_, late := ?_, sta := ?_, waits := ?_, sfm := h.sfm, smm := h.smm, sda := ?_, sdq := h.sdq, saq := ?_, out := ?_ }
 ·exact z08 v h.box
 ·exact h.plan.same hs (by simp [World.setCell])
 ·exact z01 h.lines (kk _ (by decide))
 ·exact fun i a b => z01 (h.marks i a b) (kk _ (by decide))
 ·exact z01 h.wanted (kk _ (by decide))
 ·exact z01 h.failed (kk _ (by decide))
 ·exact z01 h.late (kk _ (by decide))
 ·exact z01 hv (kk _ (by decide))
 ·exact z01 h.waits (kk _ (by decide))
 ·exact fun b hb e => (hR b e).2.1 hb
 ·exact fun b hb => (hR b hb).2.2
 ·intro b hb
  rcases hb with hb | hb | hb | hb | hb | hb | hb
  ·exact h.out b (.inl hb)
  ·exact h.out b (.inr (.inl hb))
  ·exact h.out b (.inr (.inr (.inl hb)))
  ·exact h.out b (.inr (.inr (.inr (.inl hb))))
  ·exact h.out b (.inr (.inr (.inr (.inr (.inl hb)))))
  ·exact (hR b hb).1
  ·exact h.out b (.inr (.inr (.inr (.inr (.inr (.inr hb))))))
theorem RM.newWaits {w : World} {R : Nat -> Prop} {g : Nat} {C : RBx} {vh vr vt vl vw vf vd va vq : Value} {ms : List Value} (h : RM w R g C vh vr vt vl vw vf vd va vq ms) (v : Value) (l : List Nat) (hv : w.ownsRow 0 3 1 v l.length (intsV l)) (hR : ∀ b, v.ownBlock = some b -> ¬ R b /\ vd.ownBlock ≠ some b /\ va.ownBlock ≠ some b) :
  RM (w.setCell ⟨g, 11, none⟩ v) R g { C with waits := l } vh vr vt vl vw vf vd va v ms := by
 have hT : Typed w g 159 := ⟨_, _, h.box⟩
 have kk := fun e (n2 : 159 ≠ e) => Keeps.setCell ⟨g, 11, none⟩ v hT n2
 have hs : SameOn R w (w.setCell ⟨g, 11, none⟩ v) := z0d (h.out g (.inl rfl))
 refine { box := ?_, plan := ?_, lines := ?_, mlen := h.mlen, marks := ?_, wanted := ?_, failed := ?_, late := ?_, sta := ?_, waits := ?_, sfm := h.sfm, smm := h.smm, sda := h.sda, sdq := ?_, saq := ?_, out := ?_ }
 ·exact z08 v h.box
 ·exact h.plan.same hs (by simp [World.setCell])
 ·exact z01 h.lines (kk _ (by decide))
 ·exact fun i a b => z01 (h.marks i a b) (kk _ (by decide))
 ·exact z01 h.wanted (kk _ (by decide))
 ·exact z01 h.failed (kk _ (by decide))
 ·exact z01 h.late (kk _ (by decide))
 ·exact z01 h.sta (kk _ (by decide))
 ·exact z01 hv (kk _ (by decide))
 ·exact fun b hb e => (hR b e).2.1 hb
 ·exact fun b hb e => (hR b e).2.2 hb
 ·intro b hb
  rcases hb with hb | hb | hb | hb | hb | hb | hb | hb
  ·exact h.out b (.inl hb)
  ·exact h.out b (.inr (.inl hb))
  ·exact h.out b (.inr (.inr (.inl hb)))
  ·exact h.out b (.inr (.inr (.inr (.inl hb))))
  ·exact h.out b (.inr (.inr (.inr (.inr (.inl hb)))))
  ·exact h.out b (.inr (.inr (.inr (.inr (.inr (.inl hb))))))
  ·exact (hR b hb).1
  ·exact h.out b (.inr (.inr (.inr (.inr (.inr (.inr (.inr hb)))))))
def RLnW (t : Nat) : RLn := ⟨119, t, false, [], 0, 0⟩
theorem RM.setFor {w : World} {R : Nat -> Prop} {g : Nat} {C : RBx} {vh vr vt vw vf vd va vq : Value} {ms : List Value} {gl n cap : Nat} {r : Nat} (t : Nat) (h : RM w R g C vh vr vt (.slice (some ⟨gl, 0, none⟩) n cap) vw vf vd va vq ms) (hn : n = C.lines.length)
  (hr : r < C.lines.length) (hrm : r < ms.length) :
  RM ((((((w.setCell ⟨gl, r * 6 + 0, none⟩ (.int .u8 119)).setCell ⟨gl, r * 6 + 1, none⟩ (.int .i64 t)).setCell ⟨gl, r * 6 + 2, none⟩ (.bool false)).setCell ⟨gl, r * 6 + 3, none⟩ (.slice none 0 0)).setCell ⟨gl, r * 6 + 4, none⟩ (.int .i64 0)).setCell ⟨gl, r * 6 + 5, none⟩ (.int .i64 0))
   R g (C.put r (RLnW t)) vh vr vt (.slice (some ⟨gl, 0, none⟩) n cap) vw vf vd va vq (ms.set r (.slice none 0 0)) := by
 have h0 : RM w R g (C.put r C.lines[r]) vh vr vt (.slice (some ⟨gl, 0, none⟩) n cap) vw vf vd va vq ms := by rw [put_self C r hr]; exact h
 generalize C.lines[r] = x at h0
 have h1 := h0.setX hn hr hrm ⟨119, x.train, x.been, x.marks, x.gone, x.count⟩ 0 (.int .u8 119) (by omega) rfl rfl
 have h2 := h1.setX hn hr hrm ⟨119, t, x.been, x.marks, x.gone, x.count⟩ 1 (.int .i64 t) (by omega) rfl rfl
 have h3 := h2.setX hn hr hrm ⟨119, t, false, x.marks, x.gone, x.count⟩ 2 (.bool false) (by omega) rfl rfl
 have h4 := h3.setXm hn hr hrm
 have hrm' : r < (ms.set r (.slice none 0 0)).length := by simpa using hrm
 have h5 := h4.setX hn hr hrm' ⟨119, t, false, [], 0, x.count⟩ 4 (.int .i64 0) (by omega) rfl rfl
 exact h5.setX hn hr hrm' ⟨119, t, false, [], 0, 0⟩ 5 (.int .i64 0) (by omega) rfl rfl
end Go.Proofs.YtkbpocecbcaiiaaGreatDoor
