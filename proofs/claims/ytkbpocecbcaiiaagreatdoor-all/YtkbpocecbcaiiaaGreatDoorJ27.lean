import Derived.Test.YtkbpocecbcaiiaaGreatDoorJ25
import Derived.Test.YtkbpocecbcaiiaaGreatDoorJ26
namespace Go.Proofs.YtkbpocecbcaiiaaGreatDoor
open Go.RowKit
def RBx.nxt (C : RBx) (t : Nat) : Nat := (C.L.tn t).jny.getD (C.sta.getD t 0) 0
def RBx.more (C : RBx) (t : Nat) : List Nat := C.sta.set t (C.sta.getD t 0 + 1)
def RBx.grantB (C : RBx) (f : Fr) (t : Nat) : Bool := !C.isSet t && C.free f (C.nxt t) && C.L.sound (C.more t)
def RBx.wantK (C : RBx) (r k : Nat) : RBx := if C.L.wantsF r k = 0 then C else { C with wanted := C.wanted.set k (C.L.wantsF r k) }
def RBx.wantN (C : RBx) (r : Nat) : Nat -> RBx
 | 0 => C
 | k + 1 => (C.wantN r k).wantK r k
def RBx.given (C : RBx) (r t : Nat) : RBx := (({ C with sta := C.more t } : RBx).wantN r C.L.sw.length).put r (RLnW t)
def RBx.grant (C : RBx) (f : Fr) (t : Nat) : RBx := if C.grantB f t then C.given (C.nxt t) t else C
theorem rwantN_pres (C : RBx) (r k : Nat) : (C.wantN r k).L = C.L /\ (C.wantN r k).lines = C.lines /\ (C.wantN r k).sta = C.sta /\ (C.wantN r k).waits = C.waits /\ (C.wantN r k).wanted.length = C.wanted.length /\ (C.wantN r k).failed = C.failed /\ (C.wantN r k).late = C.late := by
 induction k with
 | zero => exact ⟨rfl, rfl, rfl, rfl, rfl, rfl, rfl⟩
 | succ k ih =>
  have h : ∀ (D : RBx), (D.wantK r k).L = D.L /\ (D.wantK r k).lines = D.lines /\ (D.wantK r k).sta = D.sta /\ (D.wantK r k).waits = D.waits /\ (D.wantK r k).wanted.length = D.wanted.length /\ (D.wantK r k).failed = D.failed /\ (D.wantK r k).late = D.late := by
   intro D; unfold RBx.wantK; split <;> simp
  obtain ⟨a, b, c, d, e, f, j⟩ := h (C.wantN r k)
  exact ⟨a.trans ih.1, b.trans ih.2.1, c.trans ih.2.2.1, d.trans ih.2.2.2.1, e.trans ih.2.2.2.2.1, f.trans ih.2.2.2.2.2.1, j.trans ih.2.2.2.2.2.2⟩
structure GrantOK (C : RBx) (f : Fr) (t : Nat) : Prop where
 pa : C.L.Paths
 jn : C.L.Jnys
 tn : C.L.tns.length <= 1000
 ll : C.lines.length = C.L.rts.length
 r1 : C.L.rts.length <= 1000
 sw : C.L.sw.length <= 1000
 occ : f.occ.length = C.L.sw.length
 fl : C.failed.length = C.L.sw.length
 wl : C.wanted.length = C.L.sw.length
 go : ∀ x, x ∈ C.lines -> x.gone <= 1000
 st : C.sta.length = C.L.tns.length
 ht : t < C.L.tns.length
 hj : C.sta.getD t 0 < (C.L.tn t).jny.length
 s9 : C.sta.getD t 0 <= 1000
set_option maxRecDepth 100000 in
set_option maxHeartbeats 8000000 in
theorem rgrant_f (D P : Nat -> Prop) (g : Nat) (C : RBx) (vfr : Value) (f : Fr) (vq : Value) (t : Nat) (w : World) (h : RF w D P g C vfr f vq) (hg : GrantOK C f t) :
  Calls Tryz.prog 151 #[.pointer (some ⟨g, 0, none⟩), .int .i64 t, vfr] w fun e w' => e = .returned (.bool (C.grantB f t)) /\ RF w' (growR D w w') P g (C.grant f t) vfr f vq /\ Only D w w' := by
 obtain ⟨R, vh, vr, vt, vl, vw, vf, vd, va, ms, hM, h1, h2, h3⟩ := h.box
 obtain ⟨vo, vp, rfl, hO, hPr⟩ := h.frame.at
 obtain ⟨ao, co, rfl, -⟩ := SlAt.open hO
 obtain ⟨ap, cp, rfl, -⟩ := SlAt.open hPr
 have HB0 := zh (z02 w (.cells #[.slice ao f.occ.length co, .slice ap f.rep.length cp, .string f.cmds] 163))
 have HFB := zh (heap_alloc_new w (.cells #[.slice ao f.occ.length co, .slice ap f.rep.length cp, .string f.cmds] 163))
 have HUP := zh (fun (w' : World) (hb : Below w.heap.size w w') => And.intro (h.up hb) (Only.of_below (F := D) hb))
 have HST := zh (fun (wz : World) (hz : Below w.heap.size w wz) => rset_any g C t wz (hM.at.below hz) (by have := hg.ll; have := hg.r1; omega))
 have HGB := zh (RBx.grantB.eq_1 C f t)
 have HGR := zh (RBx.grant.eq_1 C f t)
 have hjr : C.nxt t < C.L.rts.length := by
  unfold RBx.nxt
  rw [z0b _ _ _ hg.hj]
  refine hg.jn (C.L.tn t) ?_ _ (List.getElem_mem _)
  rw [tn_eq C.L t hg.ht]
  exact List.getElem_mem _
 have HFR := zh (fun (wz : World) (hz : Below w.heap.size w wz) => rfree_any g C _ f (C.nxt t) wz (hM.at.below hz) (h.frame.at.below hz) hjr hg.sw hg.occ hg.fl hg.wl (Nat.le_of_eq hg.ll) hg.r1 hg.go)
 have HWI := zh (fun (wz : World) (hz : Below w.heap.size w wz) => with_own va C.sta t (C.sta.getD t 0 + 1) wz (Ints.ofOwn (hM.below hz).sta rfl) (by have := hg.st; have := hg.tn; omega))
 have HSO := zh (fun (v : Value) (wz : World) (hz : Below w.heap.size w wz) (hv : Ints wz v (C.more t)) => sound_any (.agg #[.int .i64 C.L.T, .int .i64 C.L.D, .int .i64 C.L.Q, vh, vr, vt]) v C.L (C.more t) wz ⟨vh, vr, vt, rfl, ((hM.below hz).plan.2 wz (fun _ _ => rfl)).1, ((hM.below hz).plan.2 wz (fun _ _ => rfl)).2.1, ((hM.below hz).plan.2 wz (fun _ _ => rfl)).2.2⟩ hv (by simp [RBx.more]; exact hg.st) hg.pa hg.jn hg.tn)
 have ht := hg.ht
 have hts : t < C.sta.length := by rw [hg.st]; exact hg.ht
 have hw0 := fun (wz : World) (hz : Below w.heap.size w wz) => (hM.below hz)
 have HMB := zh hw0
 obtain ⟨at_, ct, rfl, -, hmt, t3⟩ := SlAt.open (hM.plan.2 w (fun _ _ => rfl)).2.2
 obtain ⟨gt, ot, rfl, hgt, cs, -, hC, hc⟩ := t3 t ht
 obtain ⟨vj, rfl, hJ⟩ := hC
 obtain ⟨aj, cj, rfl, -, hmj, j3⟩ := SlAt.open hJ
 have hjl := hg.hj
 have htn := tn_eq C.L t ht
 have hnx : C.nxt t = (C.L.tn t).jny[C.sta.getD t 0] := z0b _ _ _ hjl
 rw [htn] at hjl
 have hnx2 : C.nxt t = C.L.tns[t].jny[C.sta.getD t 0] := by rw [hnx]; congr 1; rw [htn]
 obtain ⟨gj, oj, rfl, hgj, cs, -, hC, hcj⟩ := j3 _ hjl
 unfold CInt at hC
 subst hC
 rw [<- hnx2] at hcj
 have d1 := hc 1 (by omega)
 have d2 := hcj 0 (by omega)
 simp [-List.getD_eq_getElem?_getD] at d1 d2
 obtain ⟨ga, ca, rfl, ha1, ha2, hga⟩ := z0s hM.sta (by omega)
 have xa : w.cell? ⟨ga, t, none⟩ = some (.int .i64 (C.sta.getD t 0 : Nat)) := by
  rw [hM.sta.cellAt t (by omega), z0b _ _ _ hts]; simp [intsV, hts]
 have hga2 : ga < w.heap.size := hga
 obtain ⟨⟨q3, q4, q5, q6, q7, q8, q9, q10, q11⟩, -, qg⟩ := box12 hM.box
 unfold maxLen at hmt ha2 hmj
 have m1 : (t : Int) < C.L.tns.length := by omega
 have m2 : (t : Int) < C.sta.length := by omega
 have m3 : ((C.sta.getD t 0 : Nat) : Int) < C.L.tns[t].jny.length := by omega
 have m4 : (0 : Int) <= ((C.sta.getD t 0 : Nat) : Int) := by omega
 have m5 : (0 : Int) <= (t : Int) := by omega
 have HM := zh hM
 have HF := zh h.frame
 have HX := zh (And.intro h1 (And.intro h2 (And.intro h3 h.apart)))
 have HGD := zh hg
 have HJR := zh hjr
 have hs9 := hg.s9
 obtain ⟨Z, hZ⟩ : ∃ Z, C.grantB f t = Z := ⟨_, rfl⟩
 rw [hZ] at HGB HGR ⊢
 clear hZ hO hPr h h1 h2 h3 hM hg hw0 t3 hc hJ j3 hcj hnx hnx2 htn hjr
 obtain ⟨s1, hs1⟩ : ∃ s, C.sta.getD t 0 = s := ⟨_, rfl⟩
 rw [hs1] at m3 m4 d2 xa HWI hs9 hjl
 obtain ⟨s2, hs2⟩ : ∃ s, s1 + 1 = s := ⟨_, rfl⟩
 rw [hs2] at HWI
 have HS12 := zh (And.intro hs1 hs2)
 have u1 : IntKind.i64.wrap ((s1 : Int) + 1) = (s2 : Int) := by rw [show (s1 : Int) + 1 = (s2 : Int) by omega]; exact Go.IntWalk.i64_in _ (by omega)
 have HMO := zh (show C.more t = C.sta.set t s2 by unfold RBx.more; rw [hs1, hs2])
 clear hs1
 obtain ⟨r, hr⟩ : ∃ r, C.nxt t = r := ⟨_, rfl⟩
 rw [hr] at d2 HGB HGR HFR HJR
 clear hr
 obtain ⟨nj, hnj⟩ : ∃ n, C.L.tns[t].jny.length = n := ⟨_, rfl⟩
 rw [hnj] at d1 m3 hjl
 clear hnj
 generalize hnt : C.L.tns.length = nt at *
 generalize hns : C.sta.length = ns at *
 have HNN := zh (And.intro hnt hns)
 clear hnt hns
 go_enter Tryz.func151, Tryz.ntmps151
 go_wp2_with fail
 refine (uh HST _ (uh HB0)).mono ?_
 rintro e w1 ⟨rfl, hw1⟩
 subst hw1
 obtain ⟨bs, hbs⟩ : ∃ b, C.isSet t = b := ⟨_, rfl⟩
 rw [hbs] at HGB ⊢
 clear hbs
 cases bs with
 | true =>
  have hz : Z = false := uh HGB
  subst hz
  have HG2 := zh (show C.grant f t = C from uh HGR)
  go_wp2
  go_ret
  have e := uh HUP _ (uh HB0)
  exact ⟨rfl, by rw [uh HG2]; exact e.1, e.2⟩
 | false =>
  have HBN := zh (show ∀ n, Below w.heap.size w ((w.alloc (.cells #[.slice ao f.occ.length co, .slice ap f.rep.length cp, .string f.cmds] 163)).drewN n) from fun n => below_drewN (uh HB0) n)
  go_wp2
  go_quiet (fail)
  go_wp2_with fail
  refine (uh HFR _ (uh HBN _)).mono ?_
  rintro e w2 ⟨rfl, hb2⟩
  have hB2 := (uh HBN nq).trans (hb2.mono (uh HBN nq).size)
  have HB2 := zh hB2
  have HXA := zh (show w2.cell? ⟨ga, t, none⟩ = some (.int .i64 (s1 : Nat)) by rw [hB2.cell (p := ⟨ga, t, none⟩) hga2]; exact xa)
  clear hb2 HB0 HFB HBN HFR HST d1 d2 xa q3 q4 q5 q6 q7 q8 q9 q10 q11
  obtain ⟨bf, hbf⟩ : ∃ b, C.free f r = b := ⟨_, rfl⟩
  rw [hbf] at HGB ⊢
  clear hbf
  cases bf with
  | false =>
   have hz : Z = false := uh HGB
   subst hz
   have HG2 := zh (show C.grant f t = C from uh HGR)
   go_wp2
   go_ret
   have e := uh HUP _ (uh HB2)
   exact ⟨rfl, by rw [uh HG2]; exact e.1, e.2⟩
  | true =>
   have HM2 := zh (uh HMB _ hB2)
   have xa := uh HXA
   obtain ⟨⟨q3, q4, q5, q6, q7, q8, q9, q10, q11⟩, ⟨-, -, -, -, f10, -⟩, qg2⟩ := box12 (uh HM2).box
   have hga3 : ga < w2.heap.size := Nat.lt_of_lt_of_le hga2 hB2.size
   clear hB2
   have HBD := zh (show ∀ n, Below w.heap.size w (w2.drewN n) from fun n => below_drewN (uh HB2) n)
   go_wp2
   go_cut [10] (fun v wx => ∃ a c, v = .slice a ns c /\ wx.ownsRow w2.heap.size 3 1 v ns (intsV (C.sta.set t s2)) /\ Below w2.heap.size w2 wx)
   case first =>
    go_region_with (first | (go_at_call 108; refine (uh HWI _ ?_).mono ?_; (first | exact (uh HB2) | exact (uh HB2).drew | exact (uh HBD _)); rintro e w3 ⟨v3, rfl, ho3, hb3⟩) | fail)
    all_goals
     obtain ⟨a3, c3, hv3⟩ := z03 ho3
     subst hv3
     go_wp2_with fail
     go_meet
     first
      | exact ⟨a3, c3, rfl, ho3, hb3⟩
      | exact ⟨a3, c3, rfl, ho3, ((Below.refl w2.heap.size w2).drew).trans hb3⟩
   case rest =>
    obtain ⟨a3, c3, rfl, ho3, hb3⟩ := hcut
    have hB3 := (uh HB2).trans (hb3.mono (uh HB2).size)
    have HB3 := zh hB3
    have HO3 := zh ho3
    have HSO3 := zh (uh HSO _ wc hB3 (by rw [uh HMO]; exact Ints.ofOwn ho3 (by simp [(uh HNN).2])))
    have hM3 := uh HMB _ hB3
    have HW23 := zh (Nat.le_trans (uh HB2).size (Nat.le_refl w2.heap.size))
    clear q3 q4 q5 q6 q7 q8 q9 q10 q11 f10 xa
    obtain ⟨⟨q3, q4, q5, q6, q7, q8, q9, q10, q11⟩, -, qg3⟩ := box12 hM3.box
    have q0 := z0c hM3.box 0
    have q1 := z0c hM3.box 1
    have q2 := z0c hM3.box 2
    simp at q0 q1 q2
    clear hb3 hB3 ho3 hM3 HSO HM2
    go_wp2_with fail
    refine (uh HSO3).mono ?_
    rintro e w4 ⟨rfl, hb4⟩
    have hB4 := (uh HB3).trans (hb4.mono (uh HB3).size)
    have HB4 := zh hB4
    have HO4 := zh (z0e (uh HO3) hb4)
    clear q0 q1 q2 q3 q4 q5 q6 q7 q8 q9 q10 q11 HSO3 hb4
    obtain ⟨bd, hbd⟩ : ∃ b, C.L.sound (C.more t) = b := ⟨_, rfl⟩
    rw [hbd] at HGB ⊢
    clear hbd
    cases bd with
    | false =>
     have hz : Z = false := uh HGB
     subst hz
     have HG2 := zh (show C.grant f t = C from uh HGR)
     clear hB4
     go_wp2
     go_ret
     have e := uh HUP _ (uh HB4)
     exact ⟨rfl, by rw [uh HG2]; exact e.1, e.2⟩
    | true =>
     have hz : Z = true := uh HGB
     subst hz
     have hM4 := uh HMB _ hB4
     obtain ⟨⟨q3, q4, q5, q6, q7, q8, q9, q10, q11⟩, ⟨-, -, -, -, f10, -⟩, qg4⟩ := box12 hM4.box
     have hf4 : ∀ b, (Value.slice a3 ns c3).ownBlock = some b -> w.heap.size <= b := fun b hb => Nat.le_trans (uh HW23) ((uh HO4).lt b hb).1
     have h5 := hM4.newSta (.slice a3 ns c3) (C.sta.set t s2) (by
      have e := z2x (uh HO4) (Nat.zero_le _)
      rw [show (C.sta.set t s2).length = ns by simp [(uh HNN).2]]; exact e) (fun b hb => ⟨fun hR => by have := (uh HM).plan.1 b hR; have := hf4 b hb; omega, fun e => by have := ((uh HM).late.lt b e).2; have := hf4 b hb; omega, fun e => by have := ((uh HM).waits.lt b e).2; have := hf4 b hb; omega⟩)
     have HOS := zh (show Only (fun b => b = g \/ vw.ownBlock = some b) w (w4.setCell ⟨g, 10, none⟩ (.slice a3 ns c3)) from (Only.of_below (uh HB4)).trans (Only.setCell (a := ⟨g, 10, none⟩) (Or.inl rfl) _))
     have HG2 := zh (show C.grant f t = (({ C with sta := C.sta.set t s2 } : RBx).wantN r C.L.sw.length).put r (RLnW t) by rw [<- uh HMO]; exact uh HGR)
     obtain ⟨C1, hC1⟩ : ∃ C1 : RBx, C1 = { C with sta := C.sta.set t s2 } := ⟨_, rfl⟩
     rw [<- hC1] at h5 HG2
     have hL1 : C1.L = C.L := by rw [hC1]
     have HC1 := zh hC1
     have hsw := (uh HGD).sw
     have hwl := (uh HGD).wl
     have hrl : r < C.L.rts.length := uh HJR
     have hll := (uh HGD).ll
     obtain ⟨nh, hnh⟩ : ∃ n, C.L.sw.length = n := ⟨_, rfl⟩
     rw [hnh] at HG2 hsw hwl
     have HNH := zh hnh
     obtain ⟨ah, ch, hvh, -, hmh, -⟩ := SlAt.open (hM4.plan.2 w4 (fun _ _ => rfl)).1
     rw [hnh] at hvh
     subst hvh
     have H5 := zh h5
     have HF4 := zh hf4
     have HLW := zh (show ∀ b, vw.ownBlock = some b -> b < w.heap.size from fun b hb => ((uh HM).wanted.lt b hb).2)
     clear h5 hM4 hB4 hf4 hC1 hnh q3 q4 q5 q6 q7 q8 q9 q11 HO4 HO3
     go_wp2
     go_loopw [11] (fun i wr => ∃ k : Nat, i = .int .i64 k /\ k <= nh /\ RM wr R g (C1.wantN r k) (.slice ah nh ch) vr (.slice (some ⟨gt, ot, none⟩) nt ct) vl vw vf vd (.slice a3 ns c3) vq ms /\ Only (fun b => b = g \/ vw.ownBlock = some b) w wr) (fun i _ => nh - (intOf i).toNat)
     case atStart => exact ⟨0, rfl, Nat.zero_le _, uh H5, uh HOS⟩
     case round =>
      clear H5 HOS q10 f10
      obtain ⟨k, rfl, hk, hMk, hOk⟩ := hrel
      obtain ⟨p1, p2, p3, p4, p5, p6, p7⟩ := rwantN_pres C1 r k
      obtain ⟨⟨q3, q4, q5, q6, q7, q8, q9, q10, q11⟩, -, qg5⟩ := box12 hMk.box
      unfold maxLen at hmh
      by_cases hlt : k < nh
      ·have hrl1 : r < (C1.wantN r k).L.rts.length := by rw [p1, hL1]; exact hrl
       have HWT := zh (z35 g (C1.wantN r k) r k wr hMk.at hrl1)
       rw [p1, hL1] at HWT
       have HNX := zh (show C1.wantN r (k + 1) = if C.L.wantsF r k = 0 then C1.wantN r k else { C1.wantN r k with wanted := (C1.wantN r k).wanted.set k (C.L.wantsF r k) } by
        rw [<- hL1, <- p1]; rfl)
       have hwk : (C1.wantN r k).wanted.length = nh := by rw [p5, uh HC1]; exact hwl
       have HMk := zh hMk
       have HOk := zh hOk
       have l1 : (k : Int) < nh := by omega
       have l0 : (0 : Int) <= k := by omega
       obtain ⟨gw, cw, hvw, hw1, hw2, hgw⟩ := z0s hMk.wanted (by omega)
       clear hMk hOk p1 p2 p3 p4 p5 p6 p7 hrl1
       obtain ⟨ws, hws⟩ : ∃ x, C.L.wantsF r k = x := ⟨_, rfl⟩
       rw [hws] at HWT HNX
       clear hws
       go_wp2_with fail
       refine (uh HWT).mono ?_
       rintro e w6 ⟨rfl, hb6⟩
       have hM6 := (uh HMk).below hb6
       have HO6 := zh ((uh HOk).trans (Only.of_below hb6))
       have HM6 := zh hM6
       clear q3 q4 q5 q6 q7 q8 q9 q10 q11
       by_cases hz : ws = 0
       ·subst hz
        rw [if_pos rfl] at HNX
        clear hb6 hM6
        go_wp2
        exact ⟨⟨k + 1, by go_num, by omega, by rw [uh HNX]; exact uh HM6, uh HO6⟩, by simp [intOf]; omega⟩
       ·rw [if_neg hz] at HNX
        have bz : ((ws : Int) != 0) = true := by simp; omega
        rw [hwk] at hvw hw1
        have hM6' := hM6
        rw [hvw] at hM6'
        obtain ⟨⟨q3, q4, q5, q6, q7, q8, q9, q10, q11⟩, -, qg6⟩ := box12 hM6'.box
        have hrow := hM6'.wanted
        rw [hwk] at hrow
        have hwkl : k < (C1.wantN r k).wanted.length := by rw [hwk]; exact hlt
        have xw : w6.cell? ⟨gw, k, none⟩ = some (.int .u8 ((C1.wantN r k).wanted.getD k 0 : Nat)) := by
         rw [hrow.cellAt k (by omega), z0b _ _ _ hwkl]; simp [bytsV, hwkl]
        have zw := hrow.frozenAt k
        have hgw6 : gw < w6.heap.size := (hrow.lt gw rfl).2
        have HST := zh (hM6'.setWanted hwk.symm k ws)
        have HOT := zh ((uh HO6).trans (Only.setCell (F := fun b => b = g \/ vw.ownBlock = some b) (w := w6) (a := ⟨gw, k, none⟩) (Or.inr (by rw [hvw]; rfl)) (.int .u8 ws)))
        have HVW := zh hvw
        unfold maxLen at hw2
        generalize (C1.wantN r k).wanted.getD k 0 = old at *
        clear hb6 hM6 hM6' hrow hvw hwk hwkl
        go_wp2
        exact ⟨⟨k + 1, by go_num, by omega, by rw [uh HNX, uh HVW]; exact uh HST, uh HOT⟩, by simp [intOf]; omega⟩
      ·obtain rfl : k = nh := by omega
       have l1 : ¬ (k : Int) < k := by omega
       have hlen : (C1.wantN r k).lines.length = C.lines.length := by rw [p2, uh HC1]
       have hrm : r < ms.length := by rw [hMk.mlen, hlen, hll]; exact hrl
       have hrn : r < (C1.wantN r k).lines.length := by rw [hlen, hll]; exact hrl
       obtain ⟨gl, cl, hvl, hl1, hl2, hgl⟩ := z0s hMk.lines (by omega)
       rw [hlen] at hvl hl1
       obtain ⟨nl, hnl⟩ : ∃ n, C.lines.length = n := ⟨_, rfl⟩
       rw [hnl] at hvl hl1 hlen hll
       have hVL := hvl
       subst hvl
       unfold maxLen at hl2
       have hM0 : RM wr R g ((C1.wantN r k).put r (C1.wantN r k).lines[r]) (.slice ah k ch) vr (.slice (some ⟨gt, ot, none⟩) nt ct) (.slice (some ⟨gl, 0, none⟩) nl cl) vw vf vd (.slice a3 ns c3) vq ms := by rw [put_self _ r hrn]; exact hMk
       obtain ⟨hxc, hxz, hglw⟩ := hM0.lineCells hlen.symm hrn hrm
       have x0 := hxc 0 (by omega)
       have x1 := hxc 1 (by omega)
       have x2 := hxc 2 (by omega)
       have x3 := hxc 3 (by omega)
       have x4 := hxc 4 (by omega)
       have x5 := hxc 5 (by omega)
       have z0 := hxz 0
       have z1 := hxz 1
       have z2 := hxz 2
       have z3 := hxz 3
       have z4 := hxz 4
       have z5 := hxz 5
       simp [lnV] at x0 x1 x2 x3 x4 x5 z0
       have HST := zh (hMk.setFor t hlen.symm hrn hrm)
       have HOO := zh (show Only (fun b => b = g \/ vw.ownBlock = some b \/ b = gl) w _ from (((((((hOk.mono (G := fun b => b = g \/ vw.ownBlock = some b \/ b = gl) (fun b hb => hb.elim Or.inl (fun h => Or.inr (Or.inl h)))).trans (Only.setCell (w := wr) (a := ⟨gl, r * 6 + 0, none⟩) (Or.inr (Or.inr rfl)) (.int .u8 119))).trans (Only.setCell (a := ⟨gl, r * 6 + 1, none⟩) (Or.inr (Or.inr rfl)) (.int .i64 t))).trans (Only.setCell (a := ⟨gl, r * 6 + 2, none⟩) (Or.inr (Or.inr rfl)) (.bool false))).trans (Only.setCell (a := ⟨gl, r * 6 + 3, none⟩) (Or.inr (Or.inr rfl)) (.slice none 0 0))).trans (Only.setCell (a := ⟨gl, r * 6 + 4, none⟩) (Or.inr (Or.inr rfl)) (.int .i64 0))).trans (Only.setCell (a := ⟨gl, r * 6 + 5, none⟩) (Or.inr (Or.inr rfl)) (.int .i64 0))))
       have e1 : (r : Int) < nl := by omega
       have e0 : (0 : Int) <= r := by omega
       have HRN := zh (And.intro hrm hlen)
       obtain ⟨X, hX⟩ : ∃ X, X = (C1.wantN r k).lines[r] := ⟨_, rfl⟩
       obtain ⟨mm, hmm⟩ : ∃ mm, mm = ms[r] := ⟨_, rfl⟩
       rw [<- hX] at x0 x1 x2 x4 x5
       rw [<- hmm] at x3
       clear hxc hxz hM0 hMk hOk p1 p2 p3 p4 p5 p6 p7 hX hmm hrn hrm hlen
       go_wp2
       go_ret
       have hX := uh HX
       have hMm := uh HM
       refine ⟨rfl, ?_⟩
       rw [uh HG2]
       exact RF.make hX.2.1 hX.2.2.2 (uh HF).1 (uh HF) (uh HOO) (fun b hb => by
        rcases hb with hb | hb | hb
        ·exact hX.2.2.1 b (.inl hb)
        ·exact hX.2.2.1 b (.inr (.inr (.inl hb)))
        ·exact hX.2.2.1 b (.inr (.inl (by rw [hb]; rfl)))) (uh HST) hX.1 (fun b hb => by
        rcases hb with hb | hb | hb | hb | hb | hb | hb | ⟨q, hq, hb⟩
        ·exact Or.inl (hX.2.2.1 b (.inl hb))
        ·exact Or.inl (hX.2.2.1 b (.inr (.inl hb)))
        ·exact Or.inl (hX.2.2.1 b (.inr (.inr (.inl hb))))
        ·exact Or.inl (hX.2.2.1 b (.inr (.inr (.inr (.inl hb)))))
        ·exact Or.inl (hX.2.2.1 b (.inr (.inr (.inr (.inr (.inl hb))))))
        ·exact Or.inr (uh HF4 b hb)
        ·exact Or.inl (hX.2.2.1 b (.inr (.inr (.inr (.inr (.inr (.inr (.inl hb))))))))
        ·rcases List.mem_or_eq_of_mem_set hq with h5 | h5
         ·exact Or.inl (hX.2.2.1 b (.inr (.inr (.inr (.inr (.inr (.inr (.inr ⟨q, h5, hb⟩))))))))
         ·subst h5; cases hb)
end Go.Proofs.YtkbpocecbcaiiaaGreatDoor
