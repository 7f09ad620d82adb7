import Derived.Test.YtkbpocecbcaiiabGreatDoorN61
import Derived.Test.YtkbpocecbcaiiabGreatDoorN57
namespace Go.Proofs.YtkbpocecbcaiiabGreatDoor
open Go.RowKit
theorem layK_of {C : RBx} (hi : Inv C) : LayK C.L := by
 refine ⟨by have := hi.lay.good.tns; omega, by have := hi.lay.rl; omega, fun t ht => ?_, fun t ht q hq => ?_, fun r hr => ?_⟩
 ·have hm : C.L.tn t ∈ C.L.tns := by unfold Lay.tn; rw [z06 ht]; exact List.getElem_mem ht
  have := hi.lay.good.jl _ hm
  omega
 ·have hm : C.L.tn t ∈ C.L.tns := by unfold Lay.tn; rw [z06 ht]; exact List.getElem_mem ht
  exact hi.lay.good.jnys _ hm q hq
 ·have hro := hi.rt hr
  rw [z1d]
  exact ⟨List.length_pos_iff.2 hro.ne, by have := hro.pl; omega⟩
theorem way_facts {C : RBx} {s : ByteArray} (hi : Inv C) (hL : C.L = layOf s.data.toList) (he : (errOf s.data.toList).1 = 0) (h : C.L.sound C.sta = true) :
  safeOf s.data.toList (atS C).data.toList = (true, 0) /\ ansOf s (atS C) = (z21 (z22 s (atS C)), 0) /\ C.L.Foll C.sta (z22 s (atS C)) /\ (z22 s (atS C)).length <= 1000 /\ ∀ t, t ∈ z22 s (atS C) -> t < 9 := by
 have e1 : safeOf s.data.toList (atS C).data.toList = (true, 0) := by
  unfold safeOf
  rw [if_neg (by simp [he]), <- hL, if_neg (by simp [state_at hi]), digs_at hi, h]
 have e2 : ordOf s (atS C) = (true, 0) := by rw [ord_eq]; exact e1
 have e3 := trains_small s (atS C) (by rw [e2])
 obtain ⟨b1, b2, b3, -⟩ := err0 _ he
 have hs : s.size <= 256 := by simpa using b1
 refine ⟨e1, ?_, ?_, e3.1, e3.2⟩
 ·unfold ansOf
  rw [e2]
  simp
 ·rcases form_eq s hs with ⟨f1, f2, f3, -⟩ | ⟨f1, f2, f3⟩
  ·have hl : (digs (atS C).data.toList).length = (layL s).2.2.tns.length := by rw [digs_at hi, hi.st, hL, f3]
   have hok : (z1r (layL s).2.2.tns.length ((layL s).2.2.stsAt (digs (atS C).data.toList))).2.all (·.done) = true := by
    rw [ok_sound _ _ hl, digs_at hi, <- f3, <- hL]; exact h
   have := z5i _ _ hl hok
   rw [digs_at hi, <- f3, <- hL] at this
   unfold z22
   rw [digs_at hi, <- f3, <- hL]
   exact this
  ·exact absurd b2 f2
set_option maxRecDepth 100000 in
set_option maxHeartbeats 8000000 in
theorem kway_yes {C : RBx} {s : ByteArray} (hi : Inv C) (hL : C.L = layOf s.data.toList) (he : (errOf s.data.toList).1 = 0) (h : C.L.sound C.sta = true) (g : Nat) (w : World) (hk : KPl w g C.L) :
  Calls Tryz.prog 19 #[.pointer (some ⟨g, 0, none⟩), .string s, .string (atS C)] w fun e w' => e = .returned (.bool true) /\ Below w.heap.size w w' := by
 obtain ⟨f1, f2, f3, f4, f5⟩ := way_facts hi hL he h
 have H1 := zh (lSafe_any s (atS C) w (read_paths s))
 have H2 := zh (fun (wz : World) => lOrder_any s (atS C) wz (read_paths s) (trains_small s (atS C)))
 have H3 := zh (fun (wz : World) (hz : Below w.heap.size w wz) => kcomes_yes g C.L (atS C) C.sta (z22 s (atS C)) wz (hk.below hz) (layK_of hi) hi.st hi.sj (by unfold atS; rw [z0q]; unfold RBx.stateT; rw [List.length_map]; exact hi.st) (fun t ht => at_pk hi ht) f3 f5 f4)
 rw [f2] at H2
 rw [ord_eq, f1] at H1
 generalize z21 (z22 s (atS C)) = os at *
 generalize atS C = a at *
 clear f1 f2 f3 f4 f5 hk
 go_enter Tryz.func19, Tryz.ntmps19
 go_wp2_with fail
 refine (uh H1).mono ?_
 rintro e w1 ⟨rfl, hb1⟩
 have HB1 := zh hb1
 clear hb1
 go_wp2_with fail
 refine (uh H2 _).mono ?_
 rintro e w2 ⟨rfl, hb2⟩
 have HB2 := zh ((uh HB1).trans (hb2.mono (uh HB1).size))
 clear hb2
 go_wp2_with fail
 refine (uh H3 _ (uh HB2)).mono ?_
 rintro e w3 ⟨rfl, hb3⟩
 have HB3 := zh ((uh HB2).trans (hb3.mono (uh HB2).size))
 clear hb3
 go_wp2
 go_ret
 exact ⟨rfl, uh HB3⟩
def KSu (n : Nat) (w wr : World) (R : Nat -> Prop) (gb gp gw : Nat) (L : Lay) (b : Bool) : Prop := ∃ C D, KRun n w wr D R gb gp L C /\ (b = true -> L.sound C.sta = true) /\ wr.heap[gw]? = some (toldO (lkS C) (phS C) (swS C) (atS C) (quS C)) /\ ¬ D gw
def fellN (b0 : Bool) (a0 a1 t3 : ByteArray) (k : Nat) : Bool := b0 && (List.range k).all (fun t => decide (pk a0 t + cntG t3 t <= pk a1 t))
theorem fellN_succ (b0 : Bool) (a0 a1 t3 : ByteArray) (k : Nat) : fellN b0 a0 a1 t3 (k + 1) = (fellN b0 a0 a1 t3 k && decide (pk a0 k + cntG t3 k <= pk a1 k)) := by
 unfold fellN
 rw [List.range_succ, List.all_append, <- Bool.and_assoc]
 simp
theorem KRun.cnt_at {n : Nat} {w0 w : World} {D R : Nat -> Prop} {gb gp : Nat} {L : Lay} {C : RBx} (h : KRun n w0 w D R gb gp L C) {s : ByteArray} (hf : C.L.frameB s = true) {t : Nat} (ht : t < L.tns.length) : 48 + cntG (grS C s) t <= pk (atS (C.cyc s)) t := by
 obtain ⟨S, e4⟩ := h.stg hf
 have eL := h.eL
 subst eL
 rw [e4]
 have e4 := at_pk S.i4 (t := t) (by rw [S.l4]; exact ht)
 have h4 := z5h S.g t (C.s3 (C.L.frOf s)).waits.length (Nat.le_refl _)
 have h4' : (C.s4 (C.L.frOf s)).sta.getD t 0 = (C.s3 (C.L.frOf s)).sta.getD t 0 + cntG (grS C s) t := by rw [gr_cnt S t]; exact h4
 omega
theorem KRun.sure {n : Nat} {w0 w : World} {D R : Nat -> Prop} {gb gp : Nat} {L : Lay} {C : RBx} (h : KRun n w0 w D R gb gp L C) {s : ByteArray} (hf : C.L.frameB s = true) {b0 : Bool} (h0 : b0 = true -> L.sound C.sta = true)
  (hb : fellN b0 (atS C) (atS (C.cyc s)) (grS C s) L.tns.length = true \/ (grS C s).size ≠ 0) : L.sound (C.cyc s).sta = true := by
 obtain ⟨S, e4⟩ := h.stg hf
 have hi := h.box.inv
 have eL := h.eL
 subst eL
 rw [e4] at hb ⊢
 refine sure_facts S hi ?_
 rcases hb with hb | hb
 ·right
  unfold fellN at hb
  rw [Bool.and_eq_true, List.all_eq_true] at hb
  exact ⟨h0 hb.1, fun t ht => by have := hb.2 t (List.mem_range.2 ht); simpa using this⟩
 ·exact .inl hb
set_option maxRecDepth 100000 in
set_option maxHeartbeats 16000000 in
theorem Sure_any (s : ByteArray) (ao : Option Addr) (len cap : Nat) (zs : List ByteArray) (w : World) (hF : FrsOK w ao len zs) :
  Calls Tryz.prog 5 #[.string s, .slice ao len cap] w fun e w' => e = .returned (.bool true) /\ Below w.heap.size w w' := by
 have H1 := zh (z2o s w)
 obtain ⟨⟨hlm, hF⟩, hsz⟩ := hF
 unfold maxLen at hlm
 have HFR := zh hF
 have HSZ := zh hsz
 clear hF hsz
 go_enter Tryz.func5, Tryz.ntmps5
 go_wp2_with fail
 refine (uh H1).mono ?_
 rintro e w1 hOp
 rcases hOp with ⟨-, rfl, hb1⟩ | ⟨h0, gb, gp, D, R, rfl, hK⟩
 ·have HB1 := zh hb1
  clear hb1
  go_wp2
  go_ret
  exact ⟨rfl, uh HB1⟩
 ·have HA0 := zh hK.ask
  have HK0 := zh hK
  have HE0 := zh h0
  clear hK H1 h0
  go_wp2_with fail
  refine (uh HA0).mono ?_
  rintro e w0 ⟨g0, rfl, hg0, ht0, hb0⟩
  have hS0 : (layOf s.data.toList).sound (RBx.init (layOf s.data.toList)).sta = true := (err0 _ (uh HE0)).2.2.2.2.2
  have HW0 := zh (kway_yes ((uh HK0).box.inv) (uh HK0).eL (uh HE0) (by rw [(uh HK0).eL]; exact hS0) gp w0 (by rw [(uh HK0).eL]; exact ((uh HK0).below hb0 (Nat.le_refl _)).plan.at))
  have HM0 := zh (show ∀ wz, Below w0.heap.size w0 wz -> KSu w.heap.size w wz R gb gp g0 (layOf s.data.toList) true from fun wz hz => ⟨_, D, ((uh HK0).below hb0 (Nat.le_refl _)).below hz (Nat.le_refl _), fun _ => hS0, (hz.block g0 (z0c ht0)).trans ht0, fun hd => by have := (uh HK0).box.lt g0 hd; omega⟩)
  obtain ⟨⟨-, -, -, q3, -⟩, -, hg0'⟩ := z0m ht0
  clear HA0 HK0 ht0 hb0 hg0 hS0
  generalize atS (RBx.init (layOf s.data.toList)) = at0 at *
  have HWY := zh (fun (C : RBx) (hi : Inv C) (hL : C.L = layOf s.data.toList) (hs : C.L.sound C.sta = true) (g : Nat) (wz : World) (hk : KPl wz g C.L) => kway_yes hi hL (uh HE0) hs g wz hk)
  obtain ⟨L, hLe⟩ : ∃ L, L = layOf s.data.toList := ⟨_, rfl⟩
  rw [<- hLe] at HM0 HWY
  clear hLe
  go_wp2_with fail
  refine (uh HW0).mono ?_
  rintro e wa ⟨rfl, hba⟩
  have HM1 := zh (uh HM0 wa hba)
  clear HW0 HM0 hba q3 hg0'
  go_wp2
  go_loopw [7, 8, 10, 11] (fun ok v b i wr => ∃ m gw : Nat, ∃ sb : Bool, ok = .bool true /\ v = .pointer (some ⟨gw, 0, none⟩) /\ b = .bool sb /\ i = .int .i64 m /\ m <= len /\ KSu w.heap.size w wr R gb gp gw L sb) (fun _ _ _ i _ => len - (intOf i).toNat)
  case atStart => exact ⟨0, g0, true, rfl, rfl, rfl, rfl, Nat.zero_le _, uh HM1⟩
  case round =>
   obtain ⟨m, gw, sb, rfl, rfl, rfl, rfl, hm, hM⟩ := hrel
   by_cases hlt : m < len
   ·obtain ⟨C, D, hK, hS, hto0, hnd⟩ := hM
    rcases uh HFR with h | ⟨g, off, rfl, hc⟩
    ·omega
    have hcm0 := hc m hlt
    have hbk : g < w.heap.size := by
     rcases Nat.lt_or_ge g w.heap.size with h | h
     ·exact h
     ·unfold World.cell? at hcm0
      simp [Array.getElem?_eq_none h] at hcm0
    have hszm := uh HSZ m
    generalize zs.getD m ByteArray.empty = fr at *
    have hcm : ∀ wz, Below w.heap.size w wz -> wz.cell? ⟨g, off + m, none⟩ = some (.string fr) := fun wz hz => (hz.cell (p := ⟨g, off + m, none⟩) hbk).trans hcm0
    have hgz : ∀ wz, Below w.heap.size w wz -> g < wz.heap.size := fun wz hz => by have := hz.size; omega
    have HCM := zh hcm
    have HGZ := zh hgz
    have c1 := hcm wr hK.be
    have g1 := hgz wr hK.be
    have l0 : (0 : Int) <= m := by omega
    have l1 : (m : Int) < len := by omega
    have HC := zh (hK.cyc (Nat.le_refl _) fr)
    have HK := zh hK
    have HS := zh hS
    have HTO0 := zh hto0
    have HND := zh hnd
    clear hc hcm0 hcm hgz hK hS hto0 hnd HM1
    go_wp2_with fail
    refine (uh HC).mono ?_
    rintro e w2 ⟨rfl, hK2, ho2⟩
    have HK2 := zh hK2
    have HTO2 := zh ((ho2.block gw (z0c (uh HTO0)) (uh HND)).trans (uh HTO0))
    have c2 := uh HCM w2 hK2.be
    have g2 := uh HGZ w2 hK2.be
    have HH := zh (z5e (w := w2) (uh HK) hK2.plan.at fr hszm)
    clear hK2 ho2 c1 g1 HC
    go_wp2_with fail
    refine (uh HH).mono ?_
    rintro e w3 hH
    rcases hH with ⟨hf, gh, rfl, hgh, hho, hb3⟩ | ⟨hf, rfl, hb3⟩
    ·have HK3 := zh ((uh HK2).below hb3 (Nat.le_refl _))
     have HA := zh ((uh HK3).ask)
     have HHO := zh hho
     have HF := zh hf
     have HTO3 := zh ((hb3.block gw (z0c (uh HTO2))).trans (uh HTO2))
     have hz3 := hb3.size
     clear hho hb3 c2 g2 HH hf
     go_wp2_with fail
     refine (uh HA).mono ?_
     rintro e w4 ⟨gt, rfl, hgt, hto, hb4⟩
     have HK4 := zh ((uh HK3).below hb4 (Nat.le_refl _))
     have HHO4 := zh ((hb4.block gh (z0c (uh HHO))).trans (uh HHO))
     have HTO4 := zh ((hb4.block gw (z0c (uh HTO3))).trans (uh HTO3))
     have HTO := zh hto
     have HFN := zh (show ¬ _ from fun hd => by have := (uh HK2).box.lt gt hd; omega)
     have HSU := zh ((uh HK).sure (uh HF) (b0 := sb) (uh HS))
     have HCA := zh (fun (t : Nat) (ht : t < L.tns.length) => (uh HK).cnt_at (uh HF) ht)
     have hHO := (uh HK).hear (uh HF)
     have hA0 := (uh HK).box.inv.askOK
     have hA1 := (uh HK4).box.inv.askOK
     rw [(uh HK).eL] at hA0
     rw [(uh HK4).eL] at hA1
     have htn := hA0.tn
     have z0 := hA0.s3
     have z1 := hA1.s3
     have z3 := hHO.s3
     have HIS := zh (show ∀ wz, Below w4.heap.size w4 wz -> ∀ b : Bool, (b = true -> L.sound (C.cyc fr).sta = true) -> KSu w.heap.size w wz R gb gp gt L b from fun wz hz b hb => ⟨_, _, (uh HK4).below hz (Nat.le_refl _), hb, (hz.block gt (z0c (uh HTO))).trans (uh HTO), uh HFN⟩)
     have HWN := zh (show L.sound (C.cyc fr).sta = true -> ∀ wz, Below w4.heap.size w4 wz -> _ from fun hs wz hz => uh HWY (C.cyc fr) (uh HK4).box.inv (uh HK4).eL (by rw [(uh HK4).eL]; exact hs) gp wz (by rw [(uh HK4).eL]; exact ((uh HK4).below hz (Nat.le_refl _)).plan.at))
     obtain ⟨vh, vp, vf, va, vk, vw, vs, vj, ek, -, -, -, -, -, -, x7, -⟩ := (uh HK4).plan.at
     have HKO := zh ek
     obtain ⟨as_, cs, rfl, -⟩ := SlAt.open x7
     rw [List.length_map] at HKO
     obtain ⟨nt, hnt⟩ : ∃ n, n = L.tns.length := ⟨_, rfl⟩
     rw [<- hnt] at HKO HSU HCA htn z0 z1
     have HGR := zh (fun (k : Nat) (wz : World) (hz : Below w4.heap.size w4 wz) (hk : k <= 100) => z4y gh _ _ _ (grS C fr) k wz ((hz.block gh (z0c (uh HHO4))).trans (uh HHO4)) z3 hk)
     generalize grS C fr = t3 at *
     generalize atS C = b3 at *
     generalize hat1 : atS (C.cyc fr) = a3 at *
     clear hto hb4 HA hz3 hHO hA0 hA1 ek x7 hnt
     go_wp2
     go_loopw [10, 17] (fun b i wq => ∃ k mm : Nat, b = .bool (fellN sb b3 a3 t3 k) /\ i = .int .i64 k /\ k <= nt /\ wq = w4.drewN mm) (fun _ i _ => nt - (intOf i).toNat)
     case atStart => exact ⟨0, 0, by unfold fellN; simp, rfl, Nat.zero_le _, rfl⟩
     case round =>
      obtain ⟨k, mm, rfl, rfl, hk, hwq⟩ := hrel
      have HWQ := zh hwq
      have hbq : Below w4.heap.size w4 wr := by rw [hwq]; exact below_drewN (Below.refl _ _) _
      have HBQ := zh hbq
      obtain ⟨⟨-, -, -, -, -, -, -, -, -, c9, -⟩, hgg⟩ := z0n ((hbq.block gp (z0c (uh HKO))).trans (uh HKO))
      obtain ⟨⟨-, -, -, y3, -⟩, -, hgt'⟩ := z0m ((hbq.block gt (z0c (uh HTO))).trans (uh HTO))
      obtain ⟨⟨-, -, -, x3, -⟩, -, hgw'⟩ := z0m ((hbq.block gw (z0c (uh HTO4))).trans (uh HTO4))
      obtain ⟨⟨-, -, -, u3⟩, hgh'⟩ := z1i ((hbq.block gh (z0c (uh HHO4))).trans (uh HHO4))
      by_cases hkt : k < nt
      ·have HGK := zh (uh HGR k wr hbq (by omega))
       have hsu := fellN_succ sb b3 a3 t3 k
       have k1 : k < a3.size := by omega
       have k2 : k < b3.size := by omega
       obtain ⟨a, ha⟩ : ∃ a, (a3[k]'k1).toNat = a := ⟨_, rfl⟩
       obtain ⟨b, hb⟩ : ∃ b, (b3[k]'k2).toNat = b := ⟨_, rfl⟩
       have hca := uh HCA k (by omega)
       rw [<- z0j a3 k k1, ha] at hca
       rw [<- z0j a3 k k1, <- z0j b3 k k2, ha, hb] at hsu
       have a256 : a < 256 := by rw [<- ha]; exact (a3[k]'k1).toNat_lt
       have b256 : b < 256 := by rw [<- hb]; exact (b3[k]'k2).toNat_lt
       have ea : IntKind.i64.wrap (a : Int) = a := Go.IntWalk.i64_in _ (by omega)
       have eb : IntKind.i64.wrap (b : Int) = b := Go.IntWalk.i64_in _ (by omega)
       generalize cntG t3 k = n0 at *
       obtain ⟨d, hd⟩ : ∃ d, d = a - n0 := ⟨_, rfl⟩
       have ed : (a : Int) - n0 = d := by omega
       have bd : d <= 256 := by omega
       have HF1 := zh hsu
       obtain ⟨f0, hf0⟩ : ∃ f, f = fellN sb b3 a3 t3 k := ⟨_, rfl⟩
       rw [<- hf0] at HF1 ⊢
       have p1 : (k : Int) < nt := by omega
       have p2 : (k : Int) < a3.size := by omega
       have p3 : (k : Int) < b3.size := by omega
       have p4 : (0 : Int) <= k := by omega
       have p5 : k <= 100 := by omega
       have p6 : n0 <= 1000 := by omega
       clear hbq hwq hsu hf0
       go_wp2_with fail
       refine (uh HGK).mono ?_
       rintro e w5 ⟨rfl, rfl⟩
       cases f0 with
       | false =>
        clear hca
        go_wp2
        go_quiet (fail)
        go_wp2
        exact ⟨⟨k + 1, mm + nq, by rw [uh HF1]; rfl, by go_num, by omega, by rw [uh HWQ]; exact z20 _ _ _⟩, by simp [intOf]; omega⟩
       | true =>
        by_cases hle : b + n0 <= a
        ·have q1 : (b : Int) <= d := by omega
         have q2 : decide (b <= d) = true := by simp; omega
         have HF2 := zh ((uh HF1).trans (show (true && decide (b + n0 <= a)) = true by simp; omega))
         clear hle HF1 hd hca
         go_wp2
         go_quiet (fail)
         go_wp2
         exact ⟨⟨k + 1, mm + nq, by rw [uh HF2], by go_num, by omega, by rw [uh HWQ]; exact z20 _ _ _⟩, by simp [intOf]; omega⟩
        ·have q1 : ¬ (b : Int) <= d := by omega
         have q2 : decide (b <= d) = false := by simp; omega
         have HF2 := zh ((uh HF1).trans (show (true && decide (b + n0 <= a)) = false by simp; omega))
         clear hle HF1 hd hca
         go_wp2
         go_quiet (fail)
         go_wp2
         exact ⟨⟨k + 1, mm + nq, by rw [uh HF2], by go_num, by omega, by rw [uh HWQ]; exact z20 _ _ _⟩, by simp [intOf]; omega⟩
      ·have p1 : ¬ (k : Int) < nt := by omega
       obtain rfl : k = nt := by omega
       obtain ⟨f0, hf0⟩ : ∃ f, f = fellN sb b3 a3 t3 k := ⟨_, rfl⟩
       rw [<- hf0] at HSU ⊢
       clear hbq hwq hf0
       cases f0 with
       | true =>
        have hs := uh HSU (.inl rfl)
        have HW := zh (uh HWN hs wr (uh HBQ))
        have HNX := zh (fun (wz : World) (hz : Below wr.heap.size wr wz) => uh HIS wz ((uh HBQ).trans (hz.mono (uh HBQ).size)) true (fun _ => hs))
        clear hs HSU
        go_wp2_with fail
        refine (uh HW).mono ?_
        rintro e w6 ⟨rfl, hb6⟩
        have HN6 := zh (uh HNX w6 hb6)
        clear hb6
        go_wp2
        exact ⟨⟨m + 1, gt, true, rfl, rfl, rfl, by go_num, by omega, uh HN6⟩, by simp [intOf]; omega⟩
       | false =>
        by_cases hz : t3.size = 0
        ·have HNX := zh (uh HIS wr (uh HBQ) false (fun h => by cases h))
         have ht3 : t3 = ByteArray.empty := by
          apply ByteArray.ext
          exact Array.eq_empty_of_size_eq_zero hz
         subst ht3
         clear HSU
         go_wp2
         exact ⟨⟨m + 1, gt, false, rfl, rfl, rfl, by go_num, by omega, uh HNX⟩, by simp [intOf]; omega⟩
        ·have hs := uh HSU (.inr hz)
         have hne4 : ¬ t3.toList = [] := toList_ne hz
         have hne5 : t3.toList.isEmpty = false := by rw [List.isEmpty_eq_false_iff]; exact hne4
         have hne6 : (!t3.toList.isEmpty) = true := by rw [hne5]; rfl
         have hne3 : t3 ≠ (⟨#[]⟩ : ByteArray) := fun e => by rw [e] at hz; exact hz rfl
         have HW := zh (uh HWN hs wr (uh HBQ))
         have HNX := zh (fun (wz : World) (hz : Below wr.heap.size wr wz) => uh HIS wz ((uh HBQ).trans (hz.mono (uh HBQ).size)) true (fun _ => hs))
         clear hs HSU hz
         go_wp2_with fail
         refine (uh HW).mono ?_
         rintro e w6 ⟨rfl, hb6⟩
         have HN6 := zh (uh HNX w6 hb6)
         clear hb6
         go_wp2
         exact ⟨⟨m + 1, gt, true, rfl, rfl, rfl, by go_num, by omega, uh HN6⟩, by simp [intOf]; omega⟩
    ·have HK3 := zh ((uh HK2).below hb3 (Nat.le_refl _))
     have HA := zh ((uh HK3).ask)
     have hz3 := hb3.size
     have e2 : C.cyc fr = C := by unfold RBx.cyc; rw [if_neg (by simp [hf])]
     clear hb3 c2 g2 HH hf
     go_wp2_with fail
     refine (uh HA).mono ?_
     rintro e w4 ⟨gt, rfl, hgt, hto, hb4⟩
     have HK4 := zh ((uh HK3).below hb4 (Nat.le_refl _))
     have HTO := zh hto
     have HFN := zh (show ¬ _ from fun hd => by have := (uh HK2).box.lt gt hd; omega)
     have HSS := zh (show sb = true -> L.sound (C.cyc fr).sta = true by rw [e2]; exact uh HS)
     have HIS := zh (show ∀ wz, Below w4.heap.size w4 wz -> KSu w.heap.size w wz R gb gp gt L sb from fun wz hz => ⟨_, _, (uh HK4).below hz (Nat.le_refl _), uh HSS, (hz.block gt (z0c (uh HTO))).trans (uh HTO), uh HFN⟩)
     have HWN := zh (show L.sound (C.cyc fr).sta = true -> ∀ wz, Below w4.heap.size w4 wz -> _ from fun hs wz hz => uh HWY (C.cyc fr) (uh HK4).box.inv (uh HK4).eL (by rw [(uh HK4).eL]; exact hs) gp wz (by rw [(uh HK4).eL]; exact ((uh HK4).below hz (Nat.le_refl _)).plan.at))
     obtain ⟨⟨-, -, -, y3, -⟩, -, hgt'⟩ := z0m hto
     clear hto hb4 HA hz3 e2
     generalize atS (C.cyc fr) = a3 at *
     go_wp2
     go_loopw [10, 17] (fun b i wq => b = .bool sb /\ i = .int .i64 0 /\ wq = w4) (fun _ _ _ => 0)
     case atStart => exact ⟨rfl, rfl, rfl⟩
     case round =>
      obtain ⟨rfl, rfl, rfl⟩ := hrel
      cases sb with
      | true =>
       have HW := zh (uh HWN (uh HSS rfl) _ (Below.refl _ _))
       go_wp2_with fail
       refine (uh HW).mono ?_
       rintro e w6 ⟨rfl, hb6⟩
       have HN6 := zh (uh HIS w6 hb6)
       clear hb6
       go_wp2
       exact ⟨⟨m + 1, gt, true, rfl, rfl, rfl, by go_num, by omega, uh HN6⟩, by simp [intOf]; omega⟩
      | false =>
       have HN6 := zh (uh HIS _ (Below.refl _ _))
       go_wp2
       exact ⟨⟨m + 1, gt, false, rfl, rfl, rfl, by go_num, by omega, uh HN6⟩, by simp [intOf]; omega⟩
   ·have l1 : ¬ (m : Int) < len := by omega
    have HB := zh (show Below w.heap.size w wr by obtain ⟨C, D, hK, -⟩ := hM; exact hK.be)
    clear hM HM1
    go_wp2
    go_ret
    exact ⟨rfl, uh HB⟩
end Go.Proofs.YtkbpocecbcaiiabGreatDoor
