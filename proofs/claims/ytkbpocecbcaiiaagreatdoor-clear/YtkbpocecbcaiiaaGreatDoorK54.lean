import Derived.Test.YtkbpocecbcaiiaaGreatDoorK53
namespace Go.Proofs.YtkbpocecbcaiiaaGreatDoor
open Go.RowKit
def FrsOK (w : World) (ao : Option Addr) (len : Nat) (zs : List ByteArray) : Prop := FrsIn w ao len zs /\ ∀ j, (zs.getD j ByteArray.empty).size <= maxLen
def KMid (n : Nat) (w wr : World) (R : Nat -> Prop) (gb gp : Nat) (L : Lay) : Prop := ∃ C D, KRun n w wr D R gb gp L C /\ KJ C
theorem KRun.kj {n : Nat} {w0 w : World} {D R : Nat -> Prop} {gb gp : Nat} {L : Lay} {C : RBx} (h : KRun n w0 w D R gb gp L C) (hJ : KJ C) (s : ByteArray) : KJ (C.cyc s) := by
 obtain ⟨B, -, hs, hi⟩ := h.box
 exact hJ.cyc hs hi s
theorem KRun.stg {n : Nat} {w0 w : World} {D R : Nat -> Prop} {gb gp : Nat} {L : Lay} {C : RBx} (h : KRun n w0 w D R gb gp L C) {s : ByteArray} (hf : C.L.frameB s = true) : Stgs C (C.L.frOf s) /\ C.cyc s = C.s4 (C.L.frOf s) := by
 obtain ⟨B, -, hs, hi⟩ := h.box
 exact ⟨stages hs hi s hf, by unfold RBx.cyc; rw [if_pos hf]⟩
theorem heard_cells {w : World} {g : Nat} {t0 t1 t2 t3 : ByteArray} (h : w.heap[g]? = some (heardO t0 t1 t2 t3)) :
  (w.cell? ⟨g, 0, none⟩ = some (.string t0) /\ w.cell? ⟨g, 1, none⟩ = some (.string t1) /\ w.cell? ⟨g, 2, none⟩ = some (.string t2) /\ w.cell? ⟨g, 3, none⟩ = some (.string t3)) /\ g < w.heap.size :=
 ⟨⟨z07 h 0, z07 h 1, z07 h 2, z07 h 3⟩, z0e h⟩
theorem clear_route {n : Nat} {w0 w : World} {D R : Nat -> Prop} {gb gp : Nat} {L : Lay} {C : RBx} (h : KRun n w0 w D R gb gp L C) (hJ : KJ C) {s : ByteArray} (hf : C.L.frameB s = true) {r : Nat} (hr : r < L.rts.length) :
  (pk (laS C s) r = 103 /\ pk (phS (C.cyc s)) r = 103 /\ ∀ (wz : World) (gt : Nat), KPl wz gp L -> wz.heap[gt]? = some (toldO (lkS (C.cyc s)) (phS (C.cyc s)) (swS (C.cyc s)) (atS (C.cyc s)) (quS (C.cyc s))) →
   Calls Tryz.prog 19 #[.pointer (some ⟨gp, 0, none⟩), .int .i64 r, .string s, .pointer (some ⟨gt, 0, none⟩)] wz fun e w' => e = .returned (.bool true) /\ Below wz.heap.size wz w') ∨
  (pk (laS C s) r = 114 /\ pk (phS (C.cyc s)) r ≠ 103) := by
 obtain ⟨S, e4⟩ := h.stg hf
 have eL := h.eL
 subst eL
 have hJ4 := h.kj hJ s
 rw [e4] at hJ4 ⊢
 have hr' : r < C.L.rts.length := hr
 have hln : r < (C.s4 (C.L.frOf s)).lines.length := by rw [S.i4.ll, S.l4]; exact hr'
 have hlp := lamp_pk (C := C) (s := s) hln
 have hph := Inv.ph256 hJ4.ph.small r hln
 have hg := (good_iff C.L s).1 hf
 by_cases hp : ((C.s4 (C.L.frOf s)).line r).ph = 103
 ·left
  rw [if_pos hp] at hlp
  refine ⟨hlp, hph.trans hp, fun wz gt hk ht => ?_⟩
  obtain ⟨f1, f2, f3, f4⟩ := clear_facts S hJ4 hf hr' hp
  have hA := S.i4.askOK
  have hro : RtOK C.L (C.L.rt r) := by have := S.i4.rt (r := r) (by rw [S.l4]; exact hr'); rw [S.l4] at this; exact this
  rw [S.l4] at hA
  exact kclear_true gp C.L r s gt _ _ _ _ _ wz hk ht hr hA.rt hro hA.s0 hA.s1 hg.ge hg.le f1 f2 f3 f4
 ·right
  rw [if_neg hp] at hlp
  exact ⟨hlp, by rw [hph]; exact hp⟩
set_option maxRecDepth 100000 in
set_option maxHeartbeats 8000000 in
theorem Clear_any (s : ByteArray) (ao : Option Addr) (len cap : Nat) (zs : List ByteArray) (w : World) (hF : FrsOK w ao len zs) :
  Calls Tryz.prog 9 #[.string s, .slice ao len cap] w fun e w' => e = .returned (.bool true) /\ Below w.heap.size w w' := by
 have H1 := zh (kopened_any s w)
 obtain ⟨⟨hlm, hF⟩, hsz⟩ := hF
 unfold maxLen at hlm
 have HFR := zh hF
 have HSZ := zh hsz
 clear hF hsz
 go_enter Tryz.func9, Tryz.ntmps9
 go_wp2_with fail
 refine (uh H1).mono ?_
 rintro e w1 hOp
 rcases hOp with ⟨-, rfl, hb1⟩ | ⟨h0, gb, gp, D, R, rfl, hK⟩
 ·have HB1 := zh hb1
  clear hb1
  go_wp2
  go_ret
  exact ⟨rfl, uh HB1⟩
 ·have HM0 := zh (show KMid w.heap.size w w1 R gb gp (layOf s.data.toList) from ⟨_, D, hK, KJ.init _⟩)
  generalize layOf s.data.toList = L at *
  clear hK h0 H1
  go_wp2
  go_loopw [8] (fun i wr => ∃ m : Nat, i = .int .i64 m /\ m <= len /\ KMid w.heap.size w wr R gb gp L) (fun i _ => len - (intOf i).toNat)
  case atStart => exact ⟨0, rfl, Nat.zero_le _, uh HM0⟩
  case round =>
   obtain ⟨m, rfl, hm, hM⟩ := hrel
   by_cases hlt : m < len
   ·obtain ⟨C, D, hK, hJ⟩ := hM
    rcases uh HFR with h | ⟨g, off, rfl, hc⟩
    ·omega
    have hcm0 := hc m hlt
    have hbk : g < w.heap.size := by
     rcases Nat.lt_or_ge g w.heap.size with h | h
     ·exact h
     ·unfold World.cell? at hcm0
      simp [Array.getElem?_eq_none h] at hcm0
    have hszm := uh HSZ m
    generalize zs.getD m ByteArray.empty = fr at *
    have hcm : ∀ wz, Below w.heap.size w wz -> wz.cell? ⟨g, off + m, none⟩ = some (.string fr) := fun wz hz => (hz.cell (p := ⟨g, off + m, none⟩) hbk).trans hcm0
    have hgz : ∀ wz, Below w.heap.size w wz -> g < wz.heap.size := fun wz hz => by have := hz.size; omega
    have HCM := zh hcm
    have HGZ := zh hgz
    have c1 := hcm wr hK.be
    have g1 := hgz wr hK.be
    have l0 : (0 : Int) <= m := by omega
    have l1 : (m : Int) < len := by omega
    have HC := zh (hK.cyc (Nat.le_refl _) fr)
    have HK := zh hK
    have HJ := zh hJ
    have HJ2 := zh (hK.kj hJ fr)
    clear hc hcm0 hcm hgz hK hJ HM0
    go_wp2_with fail
    refine (uh HC).mono ?_
    rintro e w2 ⟨rfl, hK2, ho2⟩
    have HK2 := zh hK2
    have c2 := uh HCM w2 hK2.be
    have g2 := uh HGZ w2 hK2.be
    have HH := zh (khear_any (w := w2) (uh HK) hK2.plan.at fr hszm)
    clear hK2 ho2 c1 g1 HC
    go_wp2_with fail
    refine (uh HH).mono ?_
    rintro e w3 hH
    rcases hH with ⟨hf, gh, rfl, hgh, hho, hb3⟩ | ⟨hf, rfl, hb3⟩
    ·have HK3 := zh ((uh HK2).below hb3 (Nat.le_refl _))
     have HA := zh ((uh HK3).ask)
     have HHO := zh hho
     have HCR := zh (fun (r : Nat) (hr : r < L.rts.length) => clear_route (uh HK) (uh HJ) hf hr)
     have hla : (laS C fr).size = L.rts.length := by
      obtain ⟨B, -, hs, hi⟩ := (uh HK).box
      have := (hearOK hs hi (by rw [(uh HK).eL]; exact (uh HK).sg) (uh HK).wt fr hf).s0
      rw [(uh HK).eL] at this
      exact this
     have hph : (phS (C.cyc fr)).size = L.rts.length := by
      have := (uh HK2).box.inv.askOK.s1
      rw [(uh HK2).eL] at this
      exact this
     have hrl : L.rts.length <= 100 := by
      have := (uh HK2).box.inv.lay.rl
      rw [(uh HK2).eL] at this
      omega
     clear hho hb3 c2 g2 HH hf
     go_wp2_with fail
     refine (uh HA).mono ?_
     rintro e w4 ⟨gt, rfl, hgt, hto, hb4⟩
     have HK4 := zh ((uh HK3).below hb4 (Nat.le_refl _))
     have HHO4 := zh ((hb4.block gh (z0e (uh HHO))).trans (uh HHO))
     have HTO := zh hto
     obtain ⟨vh, vp, vf, va, vk, vw, vs, vj, ek, -, -, x3, -⟩ := (uh HK4).plan.at
     have HKO := zh ek
     obtain ⟨af, cf, rfl, -⟩ := SlAt.open x3
     rw [List.length_map] at HKO
     obtain ⟨nr, hnr⟩ : ∃ n, n = L.rts.length := ⟨_, rfl⟩
     have HNR := zh hnr
     rw [<- hnr] at hla hph hrl HKO
     clear hto hb4 ek x3 HA hnr
     go_wp2
     go_loopw [14] (fun i wq => ∃ r : Nat, i = .int .i64 r /\ r <= nr /\ Below w4.heap.size w4 wq) (fun i _ => nr - (intOf i).toNat)
     case atStart => exact ⟨0, rfl, Nat.zero_le _, Below.refl _ _⟩
     case round =>
      obtain ⟨r, rfl, hr, hbq⟩ := hrel
      have HBQ := zh hbq
      have hKq := (uh HK4).below hbq (Nat.le_refl _)
      have c3 := uh HCM wr hKq.be
      have g3 := uh HGZ wr hKq.be
      obtain ⟨⟨-, -, -, -, -, c5, -⟩, hgg⟩ := z20 ((hbq.block gp (z0e (uh HKO))).trans (uh HKO))
      obtain ⟨⟨h0, -⟩, hgh2⟩ := heard_cells ((hbq.block gh (z0e (uh HHO4))).trans (uh HHO4))
      have hto2 := (hbq.block gt (z0e (uh HTO))).trans (uh HTO)
      obtain ⟨⟨-, t1, -⟩, -, hgt2⟩ := z2f hto2
      have HPL := zh hKq.plan.at
      have HTO2 := zh hto2
      clear hbq hKq hto2
      by_cases hrt : r < nr
      ·have hr1 : r < (laS C fr).size := by omega
       have hr2 : r < (phS (C.cyc fr)).size := by omega
       have hcr := uh HCR r (by rw [<- uh HNR]; exact hrt)
       rw [<- z1y _ r hr1, <- z1y _ r hr2] at hcr
       obtain ⟨z, hz⟩ : ∃ z, (laS C fr)[r].toNat = z := ⟨_, rfl⟩
       obtain ⟨y, hy⟩ : ∃ y, (phS (C.cyc fr))[r].toNat = y := ⟨_, rfl⟩
       rw [hz, hy] at hcr
       generalize laS C fr = T0 at *
       generalize phS (C.cyc fr) = T1 at *
       have l2 : (r : Int) < nr := by omega
       have l3 : (r : Int) < T0.size := by omega
       have l4 : (r : Int) < T1.size := by omega
       have l5 : (0 : Int) <= r := by omega
       rcases hcr with ⟨rfl, rfl, hcl⟩ | ⟨rfl, hne⟩
       ·have HCL := zh (hcl wr gt (uh HPL) (uh HTO2))
        clear hcl
        go_wp2_with fail
        refine (uh HCL).mono ?_
        rintro e w5 ⟨rfl, hb5⟩
        have HB5 := zh ((uh HBQ).trans (hb5.mono (uh HBQ).size))
        have h05 := (hb5.cell (p := ⟨gh, 0, none⟩) hgh2).trans h0
        have t15 := (hb5.cell (p := ⟨gt, 1, none⟩) hgt2).trans t1
        have z5 := hb5.size
        have g5 : gh < w5.heap.size := by omega
        have g6 : gt < w5.heap.size := by omega
        clear hb5 HCL c3 c5 h0 t1
        go_wp2
        go_quiet (fail)
        go_wp2
        exact ⟨⟨r + 1, by go_num, by omega, below_drewN (uh HB5) _⟩, by simp [intOf]; omega⟩
       ·have yb : ((y : Int) == 103) = false := by simp; omega
        go_wp2
        go_quiet (fail)
        go_wp2
        exact ⟨⟨r + 1, by go_num, by omega, below_drewN (uh HBQ) _⟩, by simp [intOf]; omega⟩
      ·have l2 : ¬ (r : Int) < nr := by omega
       have HKM := zh (show KMid w.heap.size w wr R gb gp L from ⟨_, _, (uh HK4).below (uh HBQ) (Nat.le_refl _), uh HJ2⟩)
       go_wp2
       exact ⟨⟨m + 1, by go_num, by omega, uh HKM⟩, by simp [intOf]; omega⟩
    ·have HK3 := zh ((uh HK2).below hb3 (Nat.le_refl _))
     have HA := zh ((uh HK3).ask)
     clear hb3 c2 g2 HH hf
     go_wp2_with fail
     refine (uh HA).mono ?_
     rintro e w4 ⟨gt, rfl, hgt, hto, hb4⟩
     have HKM := zh (show KMid w.heap.size w w4 R gb gp L from ⟨_, _, (uh HK3).below hb4 (Nat.le_refl _), uh HJ2⟩)
     clear hto hb4 HA
     go_wp2
     go_loopw [14] (fun i wq => i = .int .i64 0 /\ wq = w4) (fun _ _ => 0)
     case atStart => exact ⟨rfl, rfl⟩
     case round =>
      obtain ⟨rfl, rfl⟩ := hrel
      go_wp2
      exact ⟨⟨m + 1, by go_num, by omega, uh HKM⟩, by simp [intOf]; omega⟩
   ·have l1 : ¬ (m : Int) < len := by omega
    have HB := zh (show Below w.heap.size w wr by obtain ⟨C, D, hK, -⟩ := hM; exact hK.be)
    clear hM HM0
    go_wp2
    go_ret
    exact ⟨rfl, uh HB⟩
end Go.Proofs.YtkbpocecbcaiiaaGreatDoor
