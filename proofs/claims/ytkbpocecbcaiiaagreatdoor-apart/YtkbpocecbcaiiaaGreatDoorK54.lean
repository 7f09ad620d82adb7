import Derived.Test.YtkbpocecbcaiiaaGreatDoorK53
namespace Go.Proofs.YtkbpocecbcaiiaaGreatDoor
open Go.RowKit
def FrsOK (w : World) (ao : Option Addr) (len : Nat) (zs : List ByteArray) : Prop := FrsIn w ao len zs /\ ∀ j, (zs.getD j ByteArray.empty).size <= maxLen
def KMid (n : Nat) (w wr : World) (R : Nat -> Prop) (gb gp : Nat) (L : Lay) : Prop := ∃ C D, KRun n w wr D R gb gp L C /\ KJ C
theorem KRun.kj {n : Nat} {w0 w : World} {D R : Nat -> Prop} {gb gp : Nat} {L : Lay} {C : RBx} (h : KRun n w0 w D R gb gp L C) (hJ : KJ C) (s : ByteArray) : KJ (C.cyc s) := by
 obtain ⟨B, -, hs, hi⟩ := h.box
 exact hJ.cyc hs hi s
theorem KRun.stg {n : Nat} {w0 w : World} {D R : Nat -> Prop} {gb gp : Nat} {L : Lay} {C : RBx} (h : KRun n w0 w D R gb gp L C) {s : ByteArray} (hf : C.L.frameB s = true) : Stgs C (C.L.frOf s) /\ C.cyc s = C.s4 (C.L.frOf s) := by
 obtain ⟨B, -, hs, hi⟩ := h.box
 exact ⟨stages hs hi s hf, by unfold RBx.cyc; rw [if_pos hf]⟩
theorem heard_cells {w : World} {g : Nat} {t0 t1 t2 t3 : ByteArray} (h : w.heap[g]? = some (heardO t0 t1 t2 t3)) :
  (w.cell? ⟨g, 0, none⟩ = some (.string t0) /\ w.cell? ⟨g, 1, none⟩ = some (.string t1) /\ w.cell? ⟨g, 2, none⟩ = some (.string t2) /\ w.cell? ⟨g, 3, none⟩ = some (.string t3)) /\ g < w.heap.size :=
 ⟨⟨z07 h 0, z07 h 1, z07 h 2, z07 h 3⟩, z0e h⟩
theorem clear_route {n : Nat} {w0 w : World} {D R : Nat -> Prop} {gb gp : Nat} {L : Lay} {C : RBx} (h : KRun n w0 w D R gb gp L C) (hJ : KJ C) {s : ByteArray} (hf : C.L.frameB s = true) {r : Nat} (hr : r < L.rts.length) :
  (pk (laS C s) r = 103 /\ pk (phS (C.cyc s)) r = 103 /\ ∀ (wz : World) (gt : Nat), KPl wz gp L -> wz.heap[gt]? = some (toldO (lkS (C.cyc s)) (phS (C.cyc s)) (swS (C.cyc s)) (atS (C.cyc s)) (quS (C.cyc s))) →
   Calls Tryz.prog 19 #[.pointer (some ⟨gp, 0, none⟩), .int .i64 r, .string s, .pointer (some ⟨gt, 0, none⟩)] wz fun e w' => e = .returned (.bool true) /\ Below wz.heap.size wz w') ∨
  (pk (laS C s) r = 114 /\ pk (phS (C.cyc s)) r ≠ 103) := by
 obtain ⟨S, e4⟩ := h.stg hf
 have eL := h.eL
 subst eL
 have hJ4 := h.kj hJ s
 rw [e4] at hJ4 ⊢
 have hr' : r < C.L.rts.length := hr
 have hln : r < (C.s4 (C.L.frOf s)).lines.length := by rw [S.i4.ll, S.l4]; exact hr'
 have hlp := lamp_pk (C := C) (s := s) hln
 have hph := Inv.ph256 hJ4.ph.small r hln
 have hg := (good_iff C.L s).1 hf
 by_cases hp : ((C.s4 (C.L.frOf s)).line r).ph = 103
 ·left
  rw [if_pos hp] at hlp
  refine ⟨hlp, hph.trans hp, fun wz gt hk ht => ?_⟩
  obtain ⟨f1, f2, f3, f4⟩ := clear_facts S hJ4 hf hr' hp
  have hA := S.i4.askOK
  have hro : RtOK C.L (C.L.rt r) := by have := S.i4.rt (r := r) (by rw [S.l4]; exact hr'); rw [S.l4] at this; exact this
  rw [S.l4] at hA
  exact kclear_true gp C.L r s gt _ _ _ _ _ wz hk ht hr hA.rt hro hA.s0 hA.s1 hg.ge hg.le f1 f2 f3 f4
 ·right
  rw [if_neg hp] at hlp
  exact ⟨hlp, by rw [hph]; exact hp⟩
set_option maxRecDepth 100000 in
set_option maxHeartbeats 8000000 in
theorem Clear_any (s : ByteArray) (ao : Option Addr) (len cap : Nat) (zs : List ByteArray) (w : World) (hF : FrsOK w ao len zs) :
  Calls Tryz.prog 9 #[.string s, .slice ao len cap] w fun e w' => e = .returned (.bool true) /\ Below w.heap.size w w' := by
 have H1 := zh (kopened_any s w)
 obtain ⟨⟨hlm, hF⟩, hsz⟩ := hF
 unfold maxLen at hlm
 have HFR := zh hF
 have HSZ := zh hsz
 clear hF hsz
 go_enter Tryz.func9, Tryz.ntmps9
 go_wp2_with fail
 refine (uh H1).mono ?_
 rintro e w1 hOp
 rcases hOp with ⟨-, rfl, hb1⟩ | ⟨h0, gb, gp, D, R, rfl, hK⟩
 ·have HB1 := zh hb1
  clear hb1
  go_wp2
  go_ret
  exact ⟨rfl, uh HB1⟩
 ·have HM0 := zh (show KMid w.heap.size w w1 R gb gp (layOf s.data.toList) from ⟨_, D, hK, KJ.init _⟩)
  generalize layOf s.data.toList = L at *
  clear hK h0 H1
  go_wp2
  go_loopw [8] (fun i wr => ∃ m : Nat, i = .int .i64 m /\ m <= len /\ KMid w.heap.size w wr R gb gp L) (fun i _ => len - (intOf i).toNat)
  case atStart => exact ⟨0, rfl, Nat.zero_le _, uh HM0⟩
  case round =>
   obtain ⟨m, rfl, hm, hM⟩ := hrel
   by_cases hlt : m < len
   ·obtain ⟨C, D, hK, hJ⟩ := hM
    rcases uh HFR with h | ⟨g, off, rfl, hc⟩
    ·omega
    have hcm0 := hc m hlt
    have hbk : g < w.heap.size := by
     rcases Nat.lt_or_ge g w.heap.size with h | h
     ·exact h
     ·unfold World.cell? at hcm0
      simp [Array.getElem?_eq_none h] at hcm0
    have hszm := uh HSZ m
    generalize zs.getD m ByteArray.empty = fr at *
    have hcm : ∀ wz, Below w.heap.size w wz -> wz.cell? ⟨g, off + m, none⟩ = some (.string fr) := fun wz hz => (hz.cell (p := ⟨g, off + m, none⟩) hbk).trans hcm0
    have hgz : ∀ wz, Below w.heap.size w wz -> g < wz.heap.size := fun wz hz => by have := hz.size; omega
    have HCM := zh hcm
    have HGZ := zh hgz
    have c1 := hcm wr hK.be
    have g1 := hgz wr hK.be
    have l0 : (0 : Int) <= m := by omega
    have l1 : (m : Int) < len := by omega
    have HC := zh (hK.cyc (Nat.le_refl _) fr)
    have HK := zh hK
    have HJ := zh hJ
    have HJ2 := zh (hK.kj hJ fr)
    clear hc hcm0 hcm hgz hK hJ HM0
    go_wp2_with fail
    refine (uh HC).mono ?_
    rintro e w2 ⟨rfl, hK2, ho2⟩
    have HK2 := zh hK2
    have c2 := uh HCM w2 hK2.be
    have g2 := uh HGZ w2 hK2.be
    have HH := zh (khear_any (w := w2) (uh HK) hK2.plan.at fr hszm)
    clear hK2 ho2 c1 g1 HC
    go_wp2_with fail
    refine (uh HH).mono ?_
    rintro e w3 hH
    rcases hH with ⟨hf, gh, rfl, hgh, hho, hb3⟩ | ⟨hf, rfl, hb3⟩
    ·have HK3 := zh ((uh HK2).below hb3 (Nat.le_refl _))
     have HA := zh ((uh HK3).ask)
     have HHO := zh hho
     have HCR := zh (fun (r : Nat) (hr : r < L.rts.length) => clear_route (uh HK) (uh HJ) hf hr)
     have hla : (laS C fr).size = L.rts.length := by
      obtain ⟨B, -, hs, hi⟩ := (uh HK).box
      have := (hearOK hs hi (by rw [(uh HK).eL]; exact (uh HK).sg) (uh HK).wt fr hf).s0
      rw [(uh HK).eL] at this
      exact this
     have hph : (phS (C.cyc fr)).size = L.rts.length := by
      have := (uh HK2).box.inv.askOK.s1
      rw [(uh HK2).eL] at this
      exact this
     have hrl : L.rts.length <= 100 := by
      have := (uh HK2).box.inv.lay.rl
      rw [(uh HK2).eL] at this
      omega
     clear hho hb3 c2 g2 HH hf
     go_wp2_with fail
     refine (uh HA).mono ?_
     rintro e w4 ⟨gt, rfl, hgt, hto, hb4⟩
     have HK4 := zh ((uh HK3).below hb4 (Nat.le_refl _))
     have HHO4 := zh ((hb4.block gh (z0e (uh HHO))).trans (uh HHO))
     have HTO := zh hto
     obtain ⟨vh, vp, vf, va, vk, vw, vs, vj, ek, -, -, x3, -⟩ := (uh HK4).plan.at
     have HKO := zh ek
     obtain ⟨af, cf, rfl, -⟩ := SlAt.open x3
     rw [List.length_map] at HKO
     obtain ⟨nr, hnr⟩ : ∃ n, n = L.rts.length := ⟨_, rfl⟩
     have HNR := zh hnr
     rw [<- hnr] at hla hph hrl HKO
     clear hto hb4 ek x3 HA hnr
     go_wp2
     go_loopw [14] (fun i wq => ∃ r : Nat, i = .int .i64 r /\ r <= nr /\ Below w4.heap.size w4 wq) (fun i _ => nr - (intOf i).toNat)
     case atStart => exact ⟨0, rfl, Nat.zero_le _, Below.refl _ _⟩
     case round =>
      obtain ⟨r, rfl, hr, hbq⟩ := hrel
      have HBQ := zh hbq
      have hKq := (uh HK4).below hbq (Nat.le_refl _)
      have c3 := uh HCM wr hKq.be
      have g3 := uh HGZ wr hKq.be
      obtain ⟨⟨-, -, -, -, -, c5, -⟩, hgg⟩ := z1l ((hbq.block gp (z0e (uh HKO))).trans (uh HKO))
      obtain ⟨⟨h0, -⟩, hgh2⟩ := heard_cells ((hbq.block gh (z0e (uh HHO4))).trans (uh HHO4))
      have hto2 := (hbq.block gt (z0e (uh HTO))).trans (uh HTO)
      obtain ⟨⟨-, t1, -⟩, -, hgt2⟩ := z28 hto2
      have HPL := zh hKq.plan.at
      have HTO2 := zh hto2
      clear hbq hKq hto2
      by_cases hrt : r < nr
      ·have hr1 : r < (laS C fr).size := by omega
       have hr2 : r < (phS (C.cyc fr)).size := by omega
       have hcr := uh HCR r (by rw [<- uh HNR]; exact hrt)
       rw [<- z1d _ r hr1, <- z1d _ r hr2] at hcr
       obtain ⟨z, hz⟩ : ∃ z, (laS C fr)[r].toNat = z := ⟨_, rfl⟩
       obtain ⟨y, hy⟩ : ∃ y, (phS (C.cyc fr))[r].toNat = y := ⟨_, rfl⟩
       rw [hz, hy] at hcr
       generalize laS C fr = T0 at *
       generalize phS (C.cyc fr) = T1 at *
       have l2 : (r : Int) < nr := by omega
       have l3 : (r : Int) < T0.size := by omega
       have l4 : (r : Int) < T1.size := by omega
       have l5 : (0 : Int) <= r := by omega
       rcases hcr with ⟨rfl, rfl, hcl⟩ | ⟨rfl, hne⟩
       ·have HCL := zh (hcl wr gt (uh HPL) (uh HTO2))
        clear hcl
        go_wp2_with fail
        refine (uh HCL).mono ?_
        rintro e w5 ⟨rfl, hb5⟩
        have HB5 := zh ((uh HBQ).trans (hb5.mono (uh HBQ).size))
        have h05 := (hb5.cell (p := ⟨gh, 0, none⟩) hgh2).trans h0
        have t15 := (hb5.cell (p := ⟨gt, 1, none⟩) hgt2).trans t1
        have z5 := hb5.size
        have g5 : gh < w5.heap.size := by omega
        have g6 : gt < w5.heap.size := by omega
        clear hb5 HCL c3 c5 h0 t1
        go_wp2
        go_quiet (fail)
        go_wp2
        exact ⟨⟨r + 1, by go_num, by omega, below_drewN (uh HB5) _⟩, by simp [intOf]; omega⟩
       ·have yb : ((y : Int) == 103) = false := by simp; omega
        go_wp2
        go_quiet (fail)
        go_wp2
        exact ⟨⟨r + 1, by go_num, by omega, below_drewN (uh HBQ) _⟩, by simp [intOf]; omega⟩
      ·have l2 : ¬ (r : Int) < nr := by omega
       have HKM := zh (show KMid w.heap.size w wr R gb gp L from ⟨_, _, (uh HK4).below (uh HBQ) (Nat.le_refl _), uh HJ2⟩)
       go_wp2
       exact ⟨⟨m + 1, by go_num, by omega, uh HKM⟩, by simp [intOf]; omega⟩
    ·have HK3 := zh ((uh HK2).below hb3 (Nat.le_refl _))
     have HA := zh ((uh HK3).ask)
     clear hb3 c2 g2 HH hf
     go_wp2_with fail
     refine (uh HA).mono ?_
     rintro e w4 ⟨gt, rfl, hgt, hto, hb4⟩
     have HKM := zh (show KMid w.heap.size w w4 R gb gp L from ⟨_, _, (uh HK3).below hb4 (Nat.le_refl _), uh HJ2⟩)
     clear hto hb4 HA
     go_wp2
     go_loopw [14] (fun i wq => i = .int .i64 0 /\ wq = w4) (fun _ _ => 0)
     case atStart => exact ⟨rfl, rfl⟩
     case round =>
      obtain ⟨rfl, rfl⟩ := hrel
      go_wp2
      exact ⟨⟨m + 1, by go_num, by omega, uh HKM⟩, by simp [intOf]; omega⟩
   ·have l1 : ¬ (m : Int) < len := by omega
    have HB := zh (show Below w.heap.size w wr by obtain ⟨C, D, hK, -⟩ := hM; exact hK.be)
    clear hM HM0
    go_wp2
    go_ret
    exact ⟨rfl, uh HB⟩
theorem within_not {l : List Nat} {x : Nat} (h : x ∉ l) : z2q l (x : Int) = false := by
 unfold z2q
 rw [List.any_eq_false]
 intro y hy e
 have e2 := eq_of_beq e
 have : y = x := by omega
 subst this
 exact h hy
theorem within_in {l : List Nat} {x : Nat} (h : x ∈ l) : z2q l (x : Int) = true := by
 unfold z2q
 rw [List.any_eq_true]
 exact ⟨x, h, by simp⟩
set_option maxRecDepth 100000 in
set_option maxHeartbeats 4000000 in
theorem kmeet_no (g : Nat) (L : Lay) (r o : Nat) (w : World) (h : KPl w g L) (hr : r < L.rts.length) (hq : o < L.rts.length) (ho : RtOK L (L.rt r)) (ho2 : RtOK L (L.rt o))
  (hd : ∀ x, x ∈ secs (L.rt r).path -> x ∉ secs (L.rt o).path) (hw : ∀ s, s < L.sw.length -> L.wantsF r s = 0 \/ L.wantsF o s = 0 \/ L.wantsF r s = L.wantsF o s) :
  Calls Tryz.prog 55 #[.pointer (some ⟨g, 0, none⟩), .int .i64 r, .int .i64 o] w fun e w' => e = .returned (.bool false) /\ ∃ m, w' = w.drewN m := by
 have HPL := zh h
 obtain ⟨vh, vp, vf, va, vk, vw, vs, vj, e, a1, -, -, a4, -, a6, -⟩ := h
 obtain ⟨⟨-, -, -, c3, -, -, c6, -, c8, -⟩, hg⟩ := z1l e
 obtain ⟨ah, ch, rfl, hm3', hm3, -⟩ := SlAt.open a1
 have hm3 : L.sw.length <= 2 ^ 63 - 1 := by unfold maxLen at hm3; omega
 clear hm3'
 obtain ⟨ga, oa, ca, ar, cr, rfl, hga, xr, hui⟩ := irow_at a4 r (by simpa using hr)
 obtain ⟨ga', oa', ca', ar2, cr2, e4, -, xr2, hui2⟩ := irow_at a4 o (by simpa using hq)
 simp only [Value.slice.injEq, Option.some.injEq, Addr.mk.injEq, and_true, true_and] at e4
 obtain ⟨⟨rfl, rfl⟩, rfl⟩ := e4
 rw [rts_path hr] at xr hui
 rw [rts_path hq] at xr2 hui2
 rw [List.length_map] at c6
 obtain ⟨gw, ow, cw, gr, or_, cr3, rfl, hgw, hrow⟩ := want_at a6 hr ho
 obtain ⟨gw', ow', cw', gr2, or2, cr4, e6, -, hrow2⟩ := want_at a6 hq ho2
 simp only [Value.slice.injEq, Option.some.injEq, Addr.mk.injEq, and_true, true_and] at e6
 obtain ⟨⟨rfl, rfl⟩, rfl⟩ := e6
 have HU2 := zh hui2
 obtain ⟨l, hl⟩ : ∃ l, l = secs (L.rt r).path := ⟨_, rfl⟩
 obtain ⟨l2, hl2⟩ : ∃ l, l = secs (L.rt o).path := ⟨_, rfl⟩
 rw [<- hl] at xr hui hd
 rw [<- hl2] at xr2 hd HU2
 obtain ⟨ar', cr', hv, hm, hrw⟩ := ints_at hui
 simp only [Value.slice.injEq] at hv
 obtain ⟨rfl, -, rfl⟩ := hv
 unfold maxLen at hm
 have hm2 := (SlAt.open (uh HU2))
 obtain ⟨ar2', cr2', hv2, -, hm2, -⟩ := hm2
 unfold maxLen at hm2
 have HR := zh hrw
 have HD := zh hd
 have HW := zh hw
 have HR1 := zh hrow
 have HR2 := zh hrow2
 obtain ⟨nr, hnr⟩ : ∃ n, n = L.rts.length := ⟨_, rfl⟩
 rw [<- hnr] at c6 c8 hr hq
 obtain ⟨ns, hns⟩ : ∃ n, n = L.sw.length := ⟨_, rfl⟩
 rw [<- hns] at c3 HR1 HR2 HW hm3
 have p1 : (r : Int) < nr := by omega
 have p2 : (o : Int) < nr := by omega
 clear a1 a4 a6 e hui hui2 hrw hd hw hrow hrow2 hnr hns hl hl2 hv2
 go_enter Tryz.func55, Tryz.ntmps55
 go_wp2
 go_loopw [7] (fun i wr => ∃ k mm : Nat, k <= l.length /\ i = .int .i64 k /\ wr = w.drewN mm) (fun i _ => l.length - (intOf i).toNat)
 case atStart => exact ⟨0, 0, Nat.zero_le _, rfl, rfl⟩
 case round =>
  obtain ⟨k, mm, hk, rfl, hwr⟩ := hrel
  have HWR := zh hwr
  have n3 : wr.cell? ⟨g, 3, none⟩ = some (.slice ah ns ch) := by rw [hwr]; exact c3
  have n6 : wr.cell? ⟨g, 6, none⟩ = some (.slice (some ⟨ga, oa, none⟩) nr ca) := by rw [hwr]; exact c6
  have n8 : wr.cell? ⟨g, 8, none⟩ = some (.slice (some ⟨gw, ow, none⟩) nr cw) := by rw [hwr]; exact c8
  have nx : wr.cell? ⟨ga, oa + r, none⟩ = some (.slice ar l.length cr) := by rw [hwr]; exact xr
  have nx2 : wr.cell? ⟨ga, oa + o, none⟩ = some (.slice ar2 l2.length cr2) := by rw [hwr]; exact xr2
  have ng : g < wr.heap.size := by rw [hwr]; exact hg
  have nga : ga < wr.heap.size := by rw [hwr]; exact hga
  by_cases hlt : k < l.length
  ·obtain ⟨gx, ox, rfl, hgx, xk⟩ := uh HR k hlt
   have hno := uh HD l[k] (List.getElem_mem hlt)
   have HC := zh (fun (n : Nat) => within_any _ l2 ((l[k] : Nat) : Int) (wr.drewN n) (by rw [hwr]; exact (uh HU2).keep (.below (below_drewN (below_drewN (Below.refl _ _) _) _))))
   rw [within_not hno] at HC
   have mk : wr.cell? ⟨gx, ox + k, none⟩ = some (.int .i64 (l[k] : Nat)) := by rw [hwr]; exact xk
   have b1 : gx < wr.heap.size := by rw [hwr]; exact hgx
   obtain ⟨x, hx⟩ : ∃ x, x = l[k] := ⟨_, rfl⟩
   rw [<- hx] at HC mk
   have q2 : (k : Int) < l.length := by omega
   have q3 : (0 : Int) <= k := by omega
   clear hwr xk hx hno
   go_wp2
   go_quiet ((go_at_call 54; exact Calls.quiet_of_same (uh HC _)))
   go_wp2
   exact ⟨⟨k + 1, mm + nq, by omega, by go_num, by rw [uh HWR]; exact z33 _ _ _⟩, by simp [intOf]; omega⟩
  ·have q2 : ¬ (k : Int) < l.length := by omega
   clear hwr
   go_wp2
   go_loopw [9] (fun i wq => ∃ k mm : Nat, k <= ns /\ i = .int .i64 k /\ wq = w.drewN mm) (fun i _ => ns - (intOf i).toNat)
   case atStart => exact ⟨0, mm, Nat.zero_le _, rfl, uh HWR⟩
   case round =>
    clear HWR n3 n6 n8 nx nx2 ng nga
    obtain ⟨j, mj, hj, rfl, hwq⟩ := hrel
    have HWQ := zh hwq
    have n3 : wr.cell? ⟨g, 3, none⟩ = some (.slice ah ns ch) := by rw [hwq]; exact c3
    have n8 : wr.cell? ⟨g, 8, none⟩ = some (.slice (some ⟨gw, ow, none⟩) nr cw) := by rw [hwq]; exact c8
    have ng : g < wr.heap.size := by rw [hwq]; exact hg
    have ngw : gw < wr.heap.size := by rw [hwq]; exact hgw
    by_cases hjt : j < ns
    ·obtain ⟨xa, hga1, hca⟩ := uh HR1 (by omega)
     obtain ⟨xb, hgb1, hcb⟩ := uh HR2 (by omega)
     have hja := hca j hjt
     have hjb := hcb j hjt
     have na : wr.cell? ⟨gw, ow + r, none⟩ = some (.slice (some ⟨gr, or_, none⟩) ns cr3) := by rw [hwq]; exact xa
     have nb : wr.cell? ⟨gw, ow + o, none⟩ = some (.slice (some ⟨gr2, or2, none⟩) ns cr4) := by rw [hwq]; exact xb
     have nja : wr.cell? ⟨gr, or_ + j, none⟩ = some (.int .u8 (L.wantsF r j : Nat)) := by rw [hwq]; exact hja
     have njb : wr.cell? ⟨gr2, or2 + j, none⟩ = some (.int .u8 (L.wantsF o j : Nat)) := by rw [hwq]; exact hjb
     have nga : gr < wr.heap.size := by rw [hwq]; exact hga1
     have ngb : gr2 < wr.heap.size := by rw [hwq]; exact hgb1
     have hww := uh HW j hjt
     generalize L.wantsF r j = u at *
     generalize L.wantsF o j = v at *
     have q5 : (j : Int) < ns := by omega
     have q6 : (0 : Int) <= j := by omega
     have q7 : (0 : Int) <= r := by omega
     have q8 : (0 : Int) <= o := by omega
     clear hwq xa xb hca hcb hja hjb
     by_cases hu : u = 0
     ·subst hu
      go_wp2
      go_quiet (fail)
      go_wp2
      exact ⟨⟨j + 1, mj + nq, by omega, by go_num, by rw [uh HWQ]; exact z33 _ _ _⟩, by simp [intOf]; omega⟩
     have hub : ((u : Int) != 0) = true := by simp; omega
     have hub2 : ((u : Int) == 0) = false := by simp; omega
     by_cases hv : v = 0
     ·subst hv
      go_wp2
      go_quiet (fail)
      go_wp2
      exact ⟨⟨j + 1, mj + nq, by omega, by go_num, by rw [uh HWQ]; exact z33 _ _ _⟩, by simp [intOf]; omega⟩
     obtain rfl : u = v := by omega
     go_wp2
     go_quiet (fail)
     go_wp2
     exact ⟨⟨j + 1, mj + nq, by omega, by go_num, by rw [uh HWQ]; exact z33 _ _ _⟩, by simp [intOf]; omega⟩
    ·have q5 : ¬ (j : Int) < ns := by omega
     clear hwq
     go_wp2
     go_ret
     exact ⟨rfl, mj, uh HWQ⟩
set_option maxRecDepth 100000 in
set_option maxHeartbeats 4000000 in
theorem kapart_yes (g : Nat) (t : ByteArray) (w : World) (ht : t.size <= 100) (hm : ∀ (r o m : Nat), r < t.size -> o < r -> pk t r = 103 -> pk t o = 103 →
   Calls Tryz.prog 55 #[.pointer (some ⟨g, 0, none⟩), .int .i64 r, .int .i64 o] (w.drewN m) fun e w' => e = .returned (.bool false) /\ ∃ m', w' = (w.drewN m).drewN m') :
  Calls Tryz.prog 21 #[.pointer (some ⟨g, 0, none⟩), .string t] w fun e w' => e = .returned (.bool true) /\ ∃ m, w' = w.drewN m := by
 have HM := zh hm
 obtain ⟨n, hn⟩ : ∃ n, n = t.size := ⟨_, rfl⟩
 have HN := zh hn
 rw [<- hn] at ht
 clear hm
 go_enter Tryz.func21, Tryz.ntmps21
 go_wp2
 go_loopw [5] (fun i wr => ∃ k mm : Nat, k <= n /\ i = .int .i64 k /\ wr = w.drewN mm) (fun i _ => n - (intOf i).toNat)
 case atStart => exact ⟨0, 0, Nat.zero_le _, rfl, rfl⟩
 case round =>
  obtain ⟨k, mm, hk, rfl, hwr⟩ := hrel
  have HWR := zh hwr
  clear hwr
  by_cases hlt : k < n
  ·have q1 : (k : Int) < t.size := by omega
   go_wp2
   go_loopw [6] (fun i wr => ∃ j mm : Nat, j <= k /\ i = .int .i64 j /\ wr = w.drewN mm) (fun i _ => k - (intOf i).toNat)
   case atStart => exact ⟨0, mm, Nat.zero_le _, rfl, uh HWR⟩
   case round =>
    clear HWR
    obtain ⟨j, mj, hj, rfl, hwq⟩ := hrel
    have HWQ := zh hwq
    by_cases hjt : j < k
    ·have q2 : (j : Int) < k := by omega
     have q3 : (j : Int) < t.size := by omega
     obtain ⟨x, hx⟩ : ∃ x, t[k].toNat = x := ⟨_, rfl⟩
     obtain ⟨y, hy⟩ : ∃ y, t[j].toNat = y := ⟨_, rfl⟩
     have hx' : pk t k = x := (z1d t k (by omega)).symm.trans hx
     have hy' : pk t j = y := (z1d t j (by omega)).symm.trans hy
     by_cases h1 : x = 103
     ·by_cases h2 : y = 103
      ·have HC := zh (uh HM k j mj (by omega) hjt (hx'.trans h1) (hy'.trans h2))
       rw [<- hwq] at HC
       subst h1 h2
       clear hwq hx' hy'
       go_wp2_with fail
       refine (uh HC).mono ?_
       rintro e w2 ⟨rfl, m', hw2⟩
       have HW2 := zh hw2
       clear hw2
       go_wp2
       exact ⟨⟨j + 1, mj + m', by omega, by go_num, by rw [uh HW2, uh HWQ]; exact z33 _ _ _⟩, by simp [intOf]; omega⟩
      ·have hb : ((y : Int) == 103) = false := by simp; omega
       subst h1
       clear hwq hx' hy'
       go_wp2
       exact ⟨⟨j + 1, mj, by omega, by go_num, uh HWQ⟩, by simp [intOf]; omega⟩
     ·have hb : ((x : Int) == 103) = false := by simp; omega
      clear hwq hx' hy'
      go_wp2
      exact ⟨⟨j + 1, mj, by omega, by go_num, uh HWQ⟩, by simp [intOf]; omega⟩
    ·have q2 : ¬ (j : Int) < k := by omega
     clear hwq
     go_wp2
     exact ⟨⟨k + 1, mj, by omega, by go_num, uh HWQ⟩, by simp [intOf]; omega⟩
  ·have q1 : ¬ (k : Int) < t.size := by omega
   go_wp2
   go_ret
   exact ⟨rfl, mm, uh HWR⟩
set_option maxRecDepth 100000 in
set_option maxHeartbeats 4000000 in
theorem kowns_yes (g : Nat) (L : Lay) (gt : Nat) (a0 a1 a2 a3 a4 : ByteArray) (w : World) (h : KPl w g L) (ht : w.heap[gt]? = some (toldO a0 a1 a2 a3 a4)) (hr2 : L.rts.length <= 100) (s0 : a0.size <= 100) (s1 : a1.size = L.rts.length)
  (hps : ∀ r x, r < L.rts.length -> x ∈ secs (L.rt r).path -> x < a0.size)
  (q0 : ∀ s, s < a0.size -> pk a0 s = 46 \/ ∃ r, r < L.rts.length /\ pk a0 s = 65 + r /\ pk a1 r ≠ 46 /\ s ∈ secs (L.rt r).path)
  (q1 : ∀ r, r < L.rts.length -> pk a1 r = 46 \/ pk a1 r = 116 \/ allP (secs (L.rt r).path) (fun x => pk a0 x == 65 + r) = true) :
  Calls Tryz.prog 20 #[.pointer (some ⟨g, 0, none⟩), .pointer (some ⟨gt, 0, none⟩)] w fun e w' => e = .returned (.bool true) /\ w' = w := by
 have HPL := zh h
 have HW := zh (fun (r : Nat) (hr : r < L.rts.length) => kwhole_any g L r a0 w h hr hr2 (hps r · hr))
 have HQ0 := zh q0
 have HQ1 := zh q1
 obtain ⟨vh, vp, vf, va, vk, vw, vs, vj, e, -, -, a3', a4', -⟩ := h
 obtain ⟨⟨-, -, -, -, -, c5, c6, -⟩, hg⟩ := z1l e
 obtain ⟨⟨y0, y1, -⟩, -, hgt⟩ := z28 ht
 obtain ⟨af, cf, rfl, -⟩ := SlAt.open a3'
 rw [List.length_map] at c5
 have HI := zh (fun (r : Nat) (hr : r < L.rts.length) => irow_at a4' r (by simpa using hr))
 obtain ⟨nr, hnr⟩ : ∃ n, n = L.rts.length := ⟨_, rfl⟩
 have HNR := zh hnr
 rw [<- hnr] at c5 s1 hr2
 obtain ⟨ns, hns⟩ : ∃ n, n = a0.size := ⟨_, rfl⟩
 clear e a3' a4' q0 q1 hps ht hnr
 go_enter Tryz.func20, Tryz.ntmps20
 go_wp2
 go_loopw [5] (fun i wr => ∃ k : Nat, k <= ns /\ i = .int .i64 k /\ wr = w) (fun i _ => ns - (intOf i).toNat)
 case atStart => exact ⟨0, Nat.zero_le _, rfl, rfl⟩
 case round =>
  obtain ⟨k, hk, rfl, hwr⟩ := hrel
  subst hwr
  by_cases hlt : k < ns
  ·have q1 : (k : Int) < a0.size := by omega
   obtain ⟨x, hx⟩ : ∃ x, a0[k].toNat = x := ⟨_, rfl⟩
   have hx' : pk a0 k = x := (z1d a0 k (by omega)).symm.trans hx
   have hq := uh HQ0 k (by omega)
   rw [hx'] at hq
   clear hx'
   by_cases h46 : x = 46
   ·subst h46
    go_wp2
    exact ⟨⟨k + 1, by omega, by go_num, trivial⟩, by simp [intOf]; omega⟩
   obtain ⟨r, hr, e, hph, hin⟩ : ∃ r, r < L.rts.length /\ x = 65 + r /\ pk a1 r ≠ 46 /\ k ∈ secs (L.rt r).path := by
    rcases hq with h | h
    ·omega
    ·exact h
   obtain ⟨ga, oa, ca, ar, cr, rfl, hga, xr, hui⟩ := uh HI r hr
   rw [List.length_map] at c6
   rw [rts_path hr] at xr hui
   have HC := zh (within_any _ _ (k : Int) _ hui)
   rw [within_in hin] at HC
   have hr' : r < nr := by rw [uh HNR]; exact hr
   rw [<- uh HNR] at c6
   obtain ⟨y, hy⟩ : ∃ y, a1[r].toNat = y := ⟨_, rfl⟩
   have hy' : pk a1 r = y := (z1d a1 r (by omega)).symm.trans hy
   rw [hy'] at hph
   have q2 : (r : Int) < nr := by omega
   have q3 : (r : Int) < a1.size := by omega
   have q4 : (0 : Int) <= r := by omega
   have e46 : ((x : Int) == 46) = false := by simp; omega
   have ey : ((y : Int) == 46) = false := by simp; omega
   have ei : IntKind.i64.wrap (x : Int) = x := Go.IntWalk.i64_in _ (by omega)
   have ex : (x : Int) - 65 = r := by omega
   generalize (secs (L.rt r).path).length = nl at *
   clear hq hy' hui hin e hr
   go_wp2_with fail
   refine (uh HC).mono ?_
   rintro e w2 ⟨rfl, rfl⟩
   go_wp2
   exact ⟨⟨k + 1, by omega, by go_num, trivial⟩, by simp [intOf]; omega⟩
  ·have q1 : ¬ (k : Int) < a0.size := by omega
   go_wp2
   go_loopw [8] (fun i wq => ∃ k : Nat, k <= nr /\ i = .int .i64 k /\ wq = wr) (fun i _ => nr - (intOf i).toNat)
   case atStart => exact ⟨0, Nat.zero_le _, rfl, rfl⟩
   case round =>
    obtain ⟨r, hr, rfl, hwq⟩ := hrel
    subst hwq
    by_cases hrt : r < nr
    ·have hr' : r < L.rts.length := by rw [<- uh HNR]; exact hrt
     have HC := zh (uh HW r hr')
     have hq := uh HQ1 r hr'
     obtain ⟨Z, hZ⟩ : ∃ Z, Z = allP (secs (L.rt r).path) (fun x => pk a0 x == 65 + r) := ⟨_, rfl⟩
     rw [<- hZ] at HC hq
     obtain ⟨y, hy⟩ : ∃ y, a1[r].toNat = y := ⟨_, rfl⟩
     have hy' : pk a1 r = y := (z1d a1 r (by omega)).symm.trans hy
     rw [hy'] at hq
     have q2 : (r : Int) < nr := by omega
     have q3 : (r : Int) < a1.size := by omega
     have q4 : (0 : Int) <= r := by omega
     clear hZ hy'
     go_wp2_with fail
     refine (uh HC).mono ?_
     rintro e w2 ⟨rfl, rfl⟩
     by_cases e1 : y = 46
     ·subst e1
      go_wp2
      exact ⟨⟨r + 1, by omega, by go_num, trivial⟩, by simp [intOf]; omega⟩
     have b1 : ((y : Int) == 46) = false := by simp; omega
     have b2 : ((y : Int) != 46) = true := by simp; omega
     by_cases e2 : y = 116
     ·subst e2
      go_wp2
      exact ⟨⟨r + 1, by omega, by go_num, trivial⟩, by simp [intOf]; omega⟩
     have b3 : ((y : Int) == 116) = false := by simp; omega
     have b4 : ((y : Int) != 116) = true := by simp; omega
     obtain rfl : Z = true := by
      rcases hq with h | h | h
      ·omega
      ·omega
      ·exact h
     go_wp2
     exact ⟨⟨r + 1, by omega, by go_num, trivial⟩, by simp [intOf]; omega⟩
    ·have q2 : ¬ (r : Int) < nr := by omega
     go_wp2
     go_ret
     exact ⟨rfl, rfl⟩
theorem own_facts {C : RBx} (hi : Inv C) (hJ : KJ C) :
  (∀ s, s < C.L.sw.length -> pk (lkS C) s = 46 \/ ∃ r, r < C.L.rts.length /\ pk (lkS C) s = 65 + r /\ pk (phS C) r ≠ 46 /\ s ∈ secs (C.L.rt r).path) ∧
  (∀ r, r < C.L.rts.length -> pk (phS C) r = 46 \/ pk (phS C) r = 116 \/ allP (secs (C.L.rt r).path) (fun x => pk (lkS C) x == 65 + r) = true) := by
 refine ⟨fun s hs => ?_, fun r hr => ?_⟩
 ·rw [lock_pk hi hs]
  cases e : C.lockedBy s with
  | none => exact .inl rfl
  | some r =>
   right
   unfold RBx.lockedBy at e
   have h1 := List.find?_some e
   have h2 := List.mem_range.1 (List.mem_of_find?_eq_some e)
   refine ⟨r, by rw [<- hi.ll]; exact h2, rfl, ?_, ?_⟩
   ·rw [Inv.ph256 hJ.ph.small r h2]
    unfold RBx.lockB at h1
    simp at h1
    exact h1.1
   ·unfold RBx.lockB at h1
    simp only [Bool.and_eq_true, bne_iff_ne, ne_eq, List.contains_iff_mem] at h1
    exact List.mem_of_mem_drop h1.2
 ·rw [Inv.ph256 hJ.ph.small r (by rw [hi.ll]; exact hr)]
  by_cases h1 : (C.line r).ph = 46
  ·exact .inl h1
  by_cases h2 : (C.line r).ph = 116
  ·exact .inr (.inl h2)
  right; right
  unfold allP
  rw [List.all_eq_true]
  intro x hx
  have hro := hi.rt (r := r) hr
  have hxl : x < C.L.sw.length := by
   obtain ⟨y, hy, e⟩ := List.mem_map.1 (show x ∈ (C.L.rt r).path.map (·.1) from hx)
   rw [<- e]; exact (hro.ps y hy).1
  rw [lock_pk hi hxl, whole_of hi hJ.ki.lk hr h1 h2 hx]
  simp [lockC]
theorem apart_facts {C : RBx} {s : ByteArray} (S : Stgs C (C.L.frOf s)) (hJ : KJ (C.s4 (C.L.frOf s))) {r o : Nat} (hr : r < C.L.rts.length) (ho : o < C.L.rts.length) (hne : o ≠ r) (h1 : ((C.s4 (C.L.frOf s)).line r).ph = 103) (h2 : ((C.s4 (C.L.frOf s)).line o).ph = 103) :
  (∀ x, x ∈ secs (C.L.rt r).path -> x ∉ secs (C.L.rt o).path) /\ (∀ x, x < C.L.sw.length -> C.L.wantsF r x = 0 \/ C.L.wantsF o x = 0 \/ C.L.wantsF r x = C.L.wantsF o x) := by
 obtain ⟨g1, -⟩ := green4 S hr h1
 obtain ⟨g2, -⟩ := green4 S ho h2
 have hi4 := S.i4
 have hL4 := S.l4
 refine ⟨fun x hx hx2 => ?_, fun x hx => ?_⟩
 ·have e1 := whole_of hi4 hJ.ki.lk (r := r) (by rw [hL4]; exact hr) (by omega) (by omega) (s := x) (by rw [hL4]; exact hx)
  have e2 := whole_of hi4 hJ.ki.lk (r := o) (by rw [hL4]; exact ho) (by omega) (by omega) (s := x) (by rw [hL4]; exact hx2)
  rw [e1] at e2
  exact hne (Option.some.inj e2).symm
 ·unfold RBx.right at g1 g2
  rw [List.all_eq_true] at g1 g2
  have t1 := g1 _ (List.mem_range.2 hx)
  have t2 := g2 _ (List.mem_range.2 hx)
  unfold RBx.rightB at t1 t2
  simp at t1 t2
  omega
theorem owns_run {n : Nat} {w0 w : World} {D R : Nat -> Prop} {gb gp : Nat} {L : Lay} {C : RBx} (h : KRun n w0 w D R gb gp L C) (hJ : KJ C) (wz : World) (gt : Nat) (hk : KPl wz gp L) (ht : wz.heap[gt]? = some (toldO (lkS C) (phS C) (swS C) (atS C) (quS C))) :
  Calls Tryz.prog 20 #[.pointer (some ⟨gp, 0, none⟩), .pointer (some ⟨gt, 0, none⟩)] wz fun e w' => e = .returned (.bool true) /\ w' = wz := by
 obtain ⟨B, -, hs, hi⟩ := h.box
 have eL := h.eL
 subst eL
 have hA := hi.askOK
 obtain ⟨f1, f2⟩ := own_facts hi hJ
 have hsw := hi.lay.sw
 refine kowns_yes gp C.L gt _ _ _ _ _ wz hk ht hA.rt (by rw [hA.s0]; omega) hA.s1 (fun r x hr hx => ?_) (fun s hs => f1 s (by rw [<- hA.s0]; exact hs)) f2
 have hro := hi.rt (r := r) hr
 obtain ⟨y, hy, e⟩ := List.mem_map.1 (show x ∈ (C.L.rt r).path.map (·.1) from hx)
 rw [hA.s0, <- e]; exact (hro.ps y hy).1
theorem apart_run {n : Nat} {w0 w : World} {D R : Nat -> Prop} {gb gp : Nat} {L : Lay} {C : RBx} (h : KRun n w0 w D R gb gp L C) (hJ : KJ C) {s : ByteArray} (hf : C.L.frameB s = true) (wz : World) (hk : KPl wz gp L) :
  Calls Tryz.prog 21 #[.pointer (some ⟨gp, 0, none⟩), .string (laS C s)] wz fun e w' => e = .returned (.bool true) /\ ∃ m, w' = wz.drewN m := by
 obtain ⟨S, e4⟩ := h.stg hf
 have hJ4 := h.kj hJ s
 rw [e4] at hJ4
 have hla : (laS C s).size = C.L.rts.length := by
  obtain ⟨B, -, hs, hi⟩ := h.box
  have := (hearOK hs hi (by rw [h.eL]; exact h.sg) h.wt s hf).s0
  exact this
 have hrl : C.L.rts.length <= 100 := by
  obtain ⟨B, -, hs, hi⟩ := h.box
  have := hi.lay.rl
  omega
 have eL := h.eL
 subst eL
 refine kapart_yes gp (laS C s) wz (by omega) (fun r o m hr ho h1 h2 => ?_)
 have hr' : r < C.L.rts.length := by omega
 have ho' : o < C.L.rts.length := by omega
 have ll : (C.s4 (C.L.frOf s)).lines.length = C.L.rts.length := by rw [S.i4.ll, S.l4]
 rw [lamp_pk (by rw [ll]; exact hr')] at h1
 rw [lamp_pk (by rw [ll]; exact ho')] at h2
 have p1 : ((C.s4 (C.L.frOf s)).line r).ph = 103 := by
  by_cases e : ((C.s4 (C.L.frOf s)).line r).ph = 103
  ·exact e
  ·rw [if_neg e] at h1; omega
 have p2 : ((C.s4 (C.L.frOf s)).line o).ph = 103 := by
  by_cases e : ((C.s4 (C.L.frOf s)).line o).ph = 103
  ·exact e
  ·rw [if_neg e] at h2; omega
 obtain ⟨f1, f2⟩ := apart_facts S hJ4 hr' ho' (by omega) p1 p2
 have hro : ∀ r, r < C.L.rts.length -> RtOK C.L (C.L.rt r) := fun r hr => by have := S.i4.rt (r := r) (by rw [S.l4]; exact hr); rw [S.l4] at this; exact this
 exact kmeet_no gp C.L r o (wz.drewN m) (hk.below (below_drewN (Below.refl _ _) _)) hr' ho' (hro r hr') (hro o ho') f1 f2
set_option maxRecDepth 100000 in
set_option maxHeartbeats 8000000 in
theorem Apart_any (s : ByteArray) (ao : Option Addr) (len cap : Nat) (zs : List ByteArray) (w : World) (hF : FrsOK w ao len zs) :
  Calls Tryz.prog 10 #[.string s, .slice ao len cap] w fun e w' => e = .returned (.bool true) /\ Below w.heap.size w w' := by
 have H1 := zh (kopened_any s w)
 obtain ⟨⟨hlm, hF⟩, hsz⟩ := hF
 unfold maxLen at hlm
 have HFR := zh hF
 have HSZ := zh hsz
 clear hF hsz
 go_enter Tryz.func10, Tryz.ntmps10
 go_wp2_with fail
 refine (uh H1).mono ?_
 rintro e w1 hOp
 rcases hOp with ⟨-, rfl, hb1⟩ | ⟨h0, gb, gp, D, R, rfl, hK⟩
 ·have HB1 := zh hb1
  clear hb1
  go_wp2
  go_ret
  exact ⟨rfl, uh HB1⟩
 ·have HM0 := zh (show KMid w.heap.size w w1 R gb gp (layOf s.data.toList) from ⟨_, D, hK, KJ.init _⟩)
  generalize layOf s.data.toList = L at *
  clear hK h0 H1
  go_wp2
  go_loopw [7, 8] (fun d i wr => ∃ m : Nat, d = .bool true /\ i = .int .i64 m /\ m <= len /\ KMid w.heap.size w wr R gb gp L) (fun _ i _ => len - (intOf i).toNat)
  case atStart => exact ⟨0, rfl, rfl, Nat.zero_le _, uh HM0⟩
  case round =>
   obtain ⟨m, rfl, rfl, hm, hM⟩ := hrel
   by_cases hlt : m < len
   ·obtain ⟨C, D, hK, hJ⟩ := hM
    rcases uh HFR with h | ⟨g, off, rfl, hc⟩
    ·omega
    have hcm0 := hc m hlt
    have hbk : g < w.heap.size := by
     rcases Nat.lt_or_ge g w.heap.size with h | h
     ·exact h
     ·unfold World.cell? at hcm0
      simp [Array.getElem?_eq_none h] at hcm0
    have hszm := uh HSZ m
    generalize zs.getD m ByteArray.empty = fr at *
    have hcm : ∀ wz, Below w.heap.size w wz -> wz.cell? ⟨g, off + m, none⟩ = some (.string fr) := fun wz hz => (hz.cell (p := ⟨g, off + m, none⟩) hbk).trans hcm0
    have hgz : ∀ wz, Below w.heap.size w wz -> g < wz.heap.size := fun wz hz => by have := hz.size; omega
    have HCM := zh hcm
    have HGZ := zh hgz
    have c1 := hcm wr hK.be
    have g1 := hgz wr hK.be
    have l0 : (0 : Int) <= m := by omega
    have l1 : (m : Int) < len := by omega
    have HC := zh (hK.cyc (Nat.le_refl _) fr)
    have HK := zh hK
    have HJ := zh hJ
    have HJ2 := zh (hK.kj hJ fr)
    clear hc hcm0 hcm hgz hK hJ HM0
    go_wp2_with fail
    refine (uh HC).mono ?_
    rintro e w2 ⟨rfl, hK2, ho2⟩
    have HK2 := zh hK2
    have c2 := uh HCM w2 hK2.be
    have g2 := uh HGZ w2 hK2.be
    have HH := zh (khear_any (w := w2) (uh HK) hK2.plan.at fr hszm)
    clear hK2 ho2 c1 g1 HC
    go_wp2_with fail
    refine (uh HH).mono ?_
    rintro e w3 hH
    rcases hH with ⟨hf, gh, rfl, hgh, hho, hb3⟩ | ⟨hf, rfl, hb3⟩
    ·have HK3 := zh ((uh HK2).below hb3 (Nat.le_refl _))
     have HA := zh ((uh HK3).ask)
     have HHO := zh hho
     have HF := zh hf
     clear hho hb3 c2 g2 HH hf
     go_wp2_with fail
     refine (uh HA).mono ?_
     rintro e w4 ⟨gt, rfl, hgt, hto, hb4⟩
     have HK4 := zh ((uh HK3).below hb4 (Nat.le_refl _))
     obtain ⟨⟨h0, -⟩, hgh2⟩ := heard_cells ((hb4.block gh (z0e (uh HHO))).trans (uh HHO))
     have HO := zh (owns_run (uh HK4) (uh HJ2) w4 gt (uh HK4).plan.at hto)
     have HP := zh (apart_run (uh HK) (uh HJ) (uh HF) w4 (uh HK4).plan.at)
     generalize laS C fr = T0 at *
     clear hto hb4 HA
     go_wp2_with fail
     refine (uh HO).mono ?_
     rintro e w5 ⟨rfl, rfl⟩
     go_wp2_with fail
     refine (uh HP).mono ?_
     rintro e w6 ⟨rfl, m6, hw6⟩
     have HKM := zh (show KMid w.heap.size w w6 R gb gp L from ⟨_, _, (uh HK4).below (by rw [hw6]; exact below_drewN (Below.refl _ _) _) (Nat.le_refl _), uh HJ2⟩)
     clear hw6
     go_wp2
     exact ⟨⟨m + 1, rfl, by go_num, by omega, uh HKM⟩, by simp [intOf]; omega⟩
    ·have HK3 := zh ((uh HK2).below hb3 (Nat.le_refl _))
     have HA := zh ((uh HK3).ask)
     clear hb3 c2 g2 HH hf
     go_wp2_with fail
     refine (uh HA).mono ?_
     rintro e w4 ⟨gt, rfl, hgt, hto, hb4⟩
     have HK4 := zh ((uh HK3).below hb4 (Nat.le_refl _))
     have HO := zh (owns_run (uh HK4) (uh HJ2) w4 gt (uh HK4).plan.at hto)
     have HKM := zh (show KMid w.heap.size w w4 R gb gp L from ⟨_, _, (uh HK4), uh HJ2⟩)
     clear hto hb4 HA
     go_wp2_with fail
     refine (uh HO).mono ?_
     rintro e w5 ⟨rfl, rfl⟩
     go_wp2
     exact ⟨⟨m + 1, rfl, by go_num, by omega, uh HKM⟩, by simp [intOf]; omega⟩
   ·have l1 : ¬ (m : Int) < len := by omega
    have HB := zh (show Below w.heap.size w wr by obtain ⟨C, D, hK, -⟩ := hM; exact hK.be)
    clear hM HM0
    go_wp2
    go_ret
    exact ⟨rfl, uh HB⟩
end Go.Proofs.YtkbpocecbcaiiaaGreatDoor
