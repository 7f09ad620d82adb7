import Derived.Test.YtkbpocecbcaiiabGreatDoorN53
import Derived.Laws.Concat
namespace Go.Proofs.YtkbpocecbcaiiabGreatDoor
open Go.RowKit
set_option maxRecDepth 100000 in
set_option maxHeartbeats 4000000 in
theorem ksame_yes (ga gb : Nat) (a0 a1 a2 a3 a4 : ByteArray) (w : World) (ha : w.heap[ga]? = some (toldO a0 a1 a2 a3 a4)) (hb : w.heap[gb]? = some (toldO a0 a1 a2 a3 a4)) :
  Calls Tryz.prog 14 #[.pointer (some ⟨ga, 0, none⟩), .pointer (some ⟨gb, 0, none⟩)] w fun e w' => e = .returned (.bool true) /\ ∃ m, w' = w.drewN m := by
 obtain ⟨⟨x0, x1, x2, x3, x4⟩, -, hga⟩ := z0m ha
 obtain ⟨⟨y0, y1, y2, y3, y4⟩, -, hgb⟩ := z0m hb
 clear ha hb
 go_enter Tryz.func14, Tryz.ntmps14
 go_wp2
 go_quiet (fail)
 go_wp2
 go_ret
 exact ⟨rfl, _, rfl⟩
theorem KRun.beside {n : Nat} {w0 w w' : World} {D1 D1' D2 R : Nat -> Prop} {gb1 gb2 gp : Nat} {L : Lay} {C C' : RBx} (h2 : KRun n w0 w D2 R gb2 gp L C) (h1 : KRun n w0 w' D1' R gb1 gp L C') (ho : Only D1 w w') (hd : ∀ k, D2 k -> ¬ D1 k) : KRun n w0 w' D2 R gb2 gp L C :=
 ⟨h2.box.only ho hd, h1.plan, h2.ap, h2.dn, h2.eL, h2.sg, h2.wt, h1.be⟩
def IgnP (n : Nat) (w0 w w' : World) (D R : Nat -> Prop) (gb gp : Nat) (L : Lay) (C : RBx) : Prop := ∃ D', KRun n w0 w' D' R gb gp L C /\ Only D w w' /\ ∀ k, D' k -> D k \/ w.heap.size <= k
set_option maxRecDepth 100000 in
set_option maxHeartbeats 4000000 in
theorem kignored_any {n : Nat} {w0 w : World} {D R : Nat -> Prop} {gb gp : Nat} {L : Lay} {C : RBx} (h : KRun n w0 w D R gb gp L C) (hn : n <= w0.heap.size) (s : ByteArray) (hsm : s.size <= maxLen) :
  Calls Tryz.prog 10 #[.pointer (some ⟨gp, 0, none⟩), .pointer (some ⟨gb, 0, none⟩), .string s] w fun e w' => e = .returned (.bool true) /\ IgnP n w0 w w' D R gb gp L C := by
 have hsw := h.box.inv.lay.sw
 rw [h.eL] at hsw
 have HG := zh (kgood_any gp L s w h.plan.at (by omega) hsm)
 have HK := zh h
 have HN := zh hn
 have hLC := h.eL
 clear h hsw hsm hn
 go_enter Tryz.func10, Tryz.ntmps10
 go_wp2_with fail
 refine (uh HG).mono ?_
 rintro e w1 ⟨rfl, m1, hw1⟩
 have hb1 : Below w.heap.size w w1 := by rw [hw1]; exact below_drewN (Below.refl _ _) _
 have HK1 := zh ((uh HK).below hb1 (uh HN))
 have HO1 := zh (show Only D w w1 from Only.of_below hb1)
 have HZ1 := zh hb1.size
 clear hw1 hb1 HG
 cases hf : L.frameB s with
 | true =>
  have HI := zh (show IgnP n w0 w w1 D R gb gp L C from ⟨D, uh HK1, uh HO1, fun _ h => .inl h⟩)
  clear hf hLC
  go_wp2
  go_ret
  exact ⟨rfl, uh HI⟩
 | false =>
  have HA := zh ((uh HK1).ask)
  have HCY := zh (show C.cyc s = C /\ C.ans s = ⟨#[33]⟩ by
   rw [<- hLC] at hf
   refine ⟨?_, ans_none C s hf⟩
   unfold RBx.cyc
   rw [if_neg (by simp [hf])])
  clear hf hLC
  go_wp2_with fail
  refine (uh HA).mono ?_
  rintro e w2 ⟨g1, rfl, hg1, ht1, hb2⟩
  have HK2 := zh ((uh HK1).below hb2 (uh HN))
  have HO2 := zh ((uh HO1).trans (Only.of_below hb2))
  have HT1 := zh ht1
  have HND := zh (show ¬ D g1 from fun hd => by have := (uh HK1).box.lt g1 hd; omega)
  have HZ2 := zh (Nat.le_trans (uh HZ1) hb2.size)
  have HC := zh ((uh HK2).cyc (uh HN) s)
  rw [(uh HCY).1, (uh HCY).2] at HC
  clear ht1 hb2 HA hg1
  go_wp2_with fail
  refine (uh HC).mono ?_
  rintro e w3 ⟨rfl, hK3, ho3⟩
  have HK3 := zh hK3
  have HO3 := zh ((uh HO2).trans ho3)
  have HT3 := zh ((ho3.block g1 (z0c (uh HT1)) (uh HND)).trans (uh HT1))
  have HA := zh hK3.ask
  clear hK3 ho3 HC
  go_wp2_with fail
  refine (uh HA).mono ?_
  rintro e w4 ⟨g2, rfl, hg2, ht2, hb4⟩
  have HK4 := zh ((uh HK3).below hb4 (uh HN))
  have HO4 := zh ((uh HO3).trans (Only.of_below hb4))
  have HS := zh (ksame_yes g1 g2 _ _ _ _ _ w4 ((hb4.block g1 (z0c (uh HT3))).trans (uh HT3)) ht2)
  clear ht2 hb4 HA hg2
  go_wp2_with fail
  refine (uh HS).mono ?_
  rintro e w5 ⟨rfl, m5, hw5⟩
  have hb5 : Below w4.heap.size w4 w5 := by rw [hw5]; exact below_drewN (Below.refl _ _) _
  have HI := zh (show IgnP n w0 w w5 D R gb gp L C from ⟨_, (uh HK4).below hb5 (uh HN), (uh HO4).trans (Only.of_below hb5), fun k hk => by
   rcases hk with hk | hk
   ·exact .inl hk
   ·have := uh HZ2; exact .inr (by omega)⟩)
  clear hw5 hb5 HS
  go_wp2
  go_ret
  exact ⟨rfl, uh HI⟩
def KTwo (n : Nat) (w wr : World) (R : Nat -> Prop) (gb1 gb2 gp : Nat) (L : Lay) (C1 C2 : RBx) : Prop := ∃ D1 D2, KRun n w wr D1 R gb1 gp L C1 /\ KRun n w wr D2 R gb2 gp L C2 /\ ∀ k, D2 k -> ¬ D1 k
theorem KTwo.be {n : Nat} {w wr : World} {R : Nat -> Prop} {gb1 gb2 gp : Nat} {L : Lay} {C1 C2 : RBx} (h : KTwo n w wr R gb1 gb2 gp L C1 C2) : Below n w wr := by
 obtain ⟨D1, D2, h1, h2, hd⟩ := h; exact h1.be
theorem KTwo.plan {n : Nat} {w wr : World} {R : Nat -> Prop} {gb1 gb2 gp : Nat} {L : Lay} {C1 C2 : RBx} (h : KTwo n w wr R gb1 gb2 gp L C1 C2) : KPl wr gp L := by
 obtain ⟨D1, D2, h1, h2, hd⟩ := h; exact h1.plan.at
theorem KTwo.below {n : Nat} {w wr w' : World} {R : Nat -> Prop} {gb1 gb2 gp : Nat} {L : Lay} {C1 C2 : RBx} (h : KTwo n w wr R gb1 gb2 gp L C1 C2) (hb : Below wr.heap.size wr w') (hn : n <= w.heap.size) : KTwo n w w' R gb1 gb2 gp L C1 C2 := by
 obtain ⟨D1, D2, h1, h2, hd⟩ := h; exact ⟨D1, D2, h1.below hb hn, h2.below hb hn, hd⟩
theorem KTwo.ign {n : Nat} {w wr : World} {R : Nat -> Prop} {gb1 gb2 gp : Nat} {L : Lay} {C1 C2 : RBx} (h : KTwo n w wr R gb1 gb2 gp L C1 C2) (hn : n <= w.heap.size) (s : ByteArray) (hsm : s.size <= maxLen) :
  Calls Tryz.prog 10 #[.pointer (some ⟨gp, 0, none⟩), .pointer (some ⟨gb2, 0, none⟩), .string s] wr fun e w' => e = .returned (.bool true) /\ KTwo n w w' R gb1 gb2 gp L C1 C2 := by
 obtain ⟨D1, D2, h1, h2, hd⟩ := h
 refine (kignored_any h2 hn s hsm).mono ?_
 rintro e w' ⟨he, D', k1, ho, hD⟩
 refine ⟨he, D1, D', h1.beside k1 ho (fun k a b => hd k b a), k1, fun k hk a => ?_⟩
 rcases hD k hk with h | h
 ·exact hd k h a
 ·have := h1.box.lt k a; omega
theorem KTwo.cyc1 {n : Nat} {w wr : World} {R : Nat -> Prop} {gb1 gb2 gp : Nat} {L : Lay} {C1 C2 : RBx} (h : KTwo n w wr R gb1 gb2 gp L C1 C2) (hn : n <= w.heap.size) (s : ByteArray) :
  Calls Tryz.prog 11 #[.pointer (some ⟨gb1, 0, none⟩), .string s] wr fun e w' => e = .returned (.string (C1.ans s)) /\ KTwo n w w' R gb1 gb2 gp L (C1.cyc s) C2 := by
 obtain ⟨D1, D2, h1, h2, hd⟩ := h
 refine (h1.cyc hn s).mono ?_
 rintro e w' ⟨he, k1, ho⟩
 refine ⟨he, _, D2, k1, h2.beside k1 ho hd, fun k hk a => ?_⟩
 rcases a with a | a
 ·exact hd k hk a
 ·have := h2.box.lt k hk; omega
theorem KTwo.cyc2 {n : Nat} {w wr : World} {R : Nat -> Prop} {gb1 gb2 gp : Nat} {L : Lay} {C1 C2 : RBx} (h : KTwo n w wr R gb1 gb2 gp L C1 C2) (hn : n <= w.heap.size) (s : ByteArray) :
  Calls Tryz.prog 11 #[.pointer (some ⟨gb2, 0, none⟩), .string s] wr fun e w' => e = .returned (.string (C2.ans s)) /\ KTwo n w w' R gb1 gb2 gp L C1 (C2.cyc s) := by
 obtain ⟨D1, D2, h1, h2, hd⟩ := h
 refine (h2.cyc hn s).mono ?_
 rintro e w' ⟨he, k1, ho⟩
 refine ⟨he, D1, _, h1.beside k1 ho (fun k a b => hd k b a), k1, fun k hk a => ?_⟩
 rcases hk with hk | hk
 ·exact hd k hk a
 ·have := h1.box.lt k a; omega
theorem KTwo.hear {n : Nat} {w wr wq : World} {R : Nat -> Prop} {gb1 gb2 gp : Nat} {L : Lay} {C1 C2 : RBx} (h : KTwo n w wq R gb1 gb2 gp L C1 C2) (hk : KPl wr gp L) (s : ByteArray) (hsm : s.size <= maxLen) :
  Calls Tryz.prog 12 #[.pointer (some ⟨gp, 0, none⟩), .string s, .string (C1.ans s)] wr fun e w' => ∃ v, e = .returned (.tuple #[v, .bool true]) /\ Below wr.heap.size wr w' := by
 obtain ⟨D1, D2, h1, h2, hd⟩ := h
 refine (z5e h1 hk s hsm).mono ?_
 rintro e w' (⟨-, gh, he, -, -, hb⟩ | ⟨-, he, hb⟩)
 ·exact ⟨_, he, hb⟩
 ·exact ⟨_, he, hb⟩
theorem KTwo.ask1 {n : Nat} {w wr : World} {R : Nat -> Prop} {gb1 gb2 gp : Nat} {L : Lay} {C1 C2 : RBx} (h : KTwo n w wr R gb1 gb2 gp L C1 C2) :
  Calls Tryz.prog 13 #[.pointer (some ⟨gp, 0, none⟩), .pointer (some ⟨gb1, 0, none⟩)] wr fun e w' => AskP wr w' e (lkS C1) (phS C1) (swS C1) (atS C1) (quS C1) := by
 obtain ⟨D1, D2, h1, h2, hd⟩ := h; exact h1.ask
theorem KTwo.ask2 {n : Nat} {w wr : World} {R : Nat -> Prop} {gb1 gb2 gp : Nat} {L : Lay} {C1 C2 : RBx} (h : KTwo n w wr R gb1 gb2 gp L C1 C2) :
  Calls Tryz.prog 13 #[.pointer (some ⟨gp, 0, none⟩), .pointer (some ⟨gb2, 0, none⟩)] wr fun e w' => AskP wr w' e (lkS C2) (phS C2) (swS C2) (atS C2) (quS C2) := by
 obtain ⟨D1, D2, h1, h2, hd⟩ := h; exact h2.ask
theorem KRun.two {n : Nat} {w w1 w2 : World} {D1 D2 R R2 : Nat -> Prop} {gb1 gb2 gp gp2 : Nat} {L : Lay} {C : RBx} (h1 : KRun n w w1 D1 R gb1 gp L C) (h2 : KRun w1.heap.size w1 w2 D2 R2 gb2 gp2 L C) (hn : n <= w.heap.size) : KTwo n w w2 R gb1 gb2 gp L C C := by
 have hb : Below w1.heap.size w1 w2 := h2.be
 have h1' := h1.below hb hn
 have hz := h1.nw hn
 refine ⟨D1, D2, h1', ⟨h2.box, h1'.plan, fun k hr hd => ?_, fun k hd => ?_, h2.eL, h2.sg, h2.wt, h1'.be⟩, fun k hd h => ?_⟩
 ·have a := h1.plan.1 k hr
  have b := h2.dn k hd
  omega
 ·have b := h2.dn k hd
  omega
 ·have a := h1.box.lt k h
  have b := h2.dn k hd
  omega
def KTwin (n : Nat) (w wr : World) (R : Nat -> Prop) (gb1 gb2 gp : Nat) (L : Lay) : Prop := ∃ C, KTwo n w wr R gb1 gb2 gp L C C
set_option maxRecDepth 100000 in
set_option maxHeartbeats 16000000 in
theorem Deaf_any (s : ByteArray) (ao : Option Addr) (len cap : Nat) (zs : List ByteArray) (jk : ByteArray) (w : World) (hF : FrsOK w ao len zs) (hB : ∀ j, (zs.getD j ByteArray.empty).size <= 140737488355328) (hj : jk.size <= 140737488355328) :
  Calls Tryz.prog 3 #[.string s, .slice ao len cap, .string jk] w fun e w' => e = .returned (.bool true) /\ Below w.heap.size w w' := by
 have H1 := zh (z2o s w)
 have HO := zh (fun w => z2o s w)
 obtain ⟨⟨hlm, hF⟩, -⟩ := hF
 unfold maxLen at hlm
 have HFR := zh hF
 have HSZ := zh hB
 clear hF hB
 go_enter Tryz.func3, Tryz.ntmps3
 go_wp2_with fail
 refine (uh H1).mono ?_
 rintro e w1 hOp
 rcases hOp with ⟨-, rfl, hb1⟩ | ⟨h0, gb, gp, D, R, rfl, hK⟩
 ·have HB1 := zh hb1
  clear hb1
  go_wp2
  go_ret
  exact ⟨rfl, uh HB1⟩
 ·have H2 := zh (uh HO w1)
  have HK0 := zh hK
  clear hK H1 HO
  go_wp2_with fail
  refine (uh H2).mono ?_
  rintro e w2 hOp2
  rcases hOp2 with ⟨hne, -, -⟩ | ⟨-, gb2, gp2, D2, R2, rfl, hK2⟩
  ·exact absurd h0 hne
  have HM0 := zh (show KTwin w.heap.size w w2 R gb gb2 gp (layOf s.data.toList) from ⟨_, (uh HK0).two hK2 (Nat.le_refl _)⟩)
  generalize layOf s.data.toList = L at *
  clear hK2 HK0 H2 h0
  obtain ⟨j2, hj2⟩ : ∃ j, j = (⟨#[50]⟩ : ByteArray) ++ jk := ⟨_, rfl⟩
  have k50 : (⟨#[50]⟩ : ByteArray).size = 1 := rfl
  have hj2s : j2.size <= maxLen := by rw [hj2, ByteArray.size_append, k50]; unfold maxLen; omega
  have hjs : (⟨#[50]⟩ : ByteArray).size + jk.size <= 9223372036854775807 := by rw [k50]; omega
  have zz2 : ∀ W : World, (Op.stringOp .add (⟨#[50]⟩ : ByteArray) jk).run Tryz.prog W = .ok (.string j2) W := fun W => by rw [hj2]; exact run_string_add_sum W _ jk hjs
  have hjm : jk.size <= maxLen := by unfold maxLen; omega
  have HJ2 := zh hj2s
  have HJM := zh hjm
  clear hj2 hj2s hjm k50 hjs
  go_wp2
  go_loopw [13] (fun i wr => ∃ m : Nat, i = .int .i64 m /\ m <= len /\ KTwin w.heap.size w wr R gb gb2 gp L) (fun i _ => len - (intOf i).toNat)
  case atStart => exact ⟨0, rfl, Nat.zero_le _, uh HM0⟩
  case round =>
   obtain ⟨m, rfl, hm, hM⟩ := hrel
   by_cases hlt : m < len
   ·obtain ⟨C, hK⟩ := hM
    rcases uh HFR with h | ⟨g, off, rfl, hc⟩
    ·omega
    have hcm0 := hc m hlt
    have hbk : g < w.heap.size := by
     rcases Nat.lt_or_ge g w.heap.size with h | h
     ·exact h
     ·unfold World.cell? at hcm0
      simp [Array.getElem?_eq_none h] at hcm0
    have hszm := uh HSZ m
    generalize zs.getD m ByteArray.empty = fr at *
    have hfm : fr.size <= maxLen := by unfold maxLen; omega
    have hcm : ∀ wz, Below w.heap.size w wz -> wz.cell? ⟨g, off + m, none⟩ = some (.string fr) := fun wz hz => (hz.cell (p := ⟨g, off + m, none⟩) hbk).trans hcm0
    have hgz : ∀ wz, Below w.heap.size w wz -> g < wz.heap.size := fun wz hz => by have := hz.size; omega
    have HCM := zh hcm
    have HGZ := zh hgz
    obtain ⟨j3, hj3⟩ : ∃ j, j = fr ++ jk := ⟨_, rfl⟩
    have hj3s : j3.size <= maxLen := by rw [hj3, ByteArray.size_append]; unfold maxLen; omega
    have zz3 : ∀ W : World, (Op.stringOp .add fr jk).run Tryz.prog W = .ok (.string j3) W := fun W => by rw [hj3]; exact run_string_add_sum W _ jk (by omega)
    have HFM := zh hfm
    have HK := zh hK
    have HI1 := zh (hK.ign (Nat.le_refl _) jk (uh HJM))
    have l0 : (0 : Int) <= m := by omega
    have l1 : (m : Int) < len := by omega
    have HJ3 := zh hj3s
    clear hc hcm0 hcm hgz hj3 hj3s hfm hK HM0
    go_wp2_with fail
    refine (uh HI1).mono ?_
    rintro e w2 ⟨rfl, hK2⟩
    have HI2 := zh (hK2.ign (Nat.le_refl _) j2 (uh HJ2))
    clear hK2 HI1
    go_wp2_with fail
    refine (uh HI2).mono ?_
    rintro e w3 ⟨rfl, hK3⟩
    have HI3 := zh (hK3.ign (Nat.le_refl _) j3 (uh HJ3))
    have c3 := uh HCM w3 hK3.be
    have g3 := uh HGZ w3 hK3.be
    clear hK3 HI2
    go_wp2_with fail
    refine (uh HI3).mono ?_
    rintro e w4 ⟨rfl, hK4⟩
    have HK4 := zh hK4
    have c4 := uh HCM w4 hK4.be
    have g4 := uh HGZ w4 hK4.be
    clear hK4 HI3 c3 g3 zz3
    by_cases hz : fr.size = 0
    ·have z1 : decide (0 < fr.size) = false := decide_eq_false (by omega)
     have z2 : ¬ 0 < fr.size := by omega
     have HC1 := zh ((uh HK4).cyc1 (Nat.le_refl _) fr)
     go_wp2_with fail
     refine (uh HC1).mono ?_
     rintro e w5 ⟨rfl, hK5⟩
     have HC2 := zh (hK5.cyc2 (Nat.le_refl _) fr)
     have c5 := uh HCM w5 hK5.be
     have g5 := uh HGZ w5 hK5.be
     clear hK5 HC1 c4 g4
     go_wp2_with fail
     refine (uh HC2).mono ?_
     rintro e w6 ⟨rfl, hK6⟩
     have HH := zh ((uh HK).hear hK6.plan fr (uh HFM))
     have HK6 := zh hK6
     have c6 := uh HCM w6 hK6.be
     have g6 := uh HGZ w6 hK6.be
     clear hK6 HC2 c5 g5
     go_wp2_with fail
     refine (uh HH).mono ?_
     rintro e w7 ⟨v7, rfl, hb7⟩
     have HK7 := zh ((uh HK6).below hb7 (Nat.le_refl _))
     have HA1 := zh (uh HK7).ask1
     clear hb7 HH c6 g6 HK6
     go_wp2_with fail
     refine (uh HA1).mono ?_
     rintro e w8 ⟨g1, rfl, hg1, ht1, hb8⟩
     have HK8 := zh ((uh HK7).below hb8 (Nat.le_refl _))
     have HT1 := zh ht1
     have HA2 := zh (uh HK8).ask2
     clear ht1 hb8 HA1 HK7 hg1
     go_wp2_with fail
     refine (uh HA2).mono ?_
     rintro e w9 ⟨g2, rfl, hg2, ht2, hb9⟩
     have HK9 := zh ((uh HK8).below hb9 (Nat.le_refl _))
     have HS := zh (ksame_yes g1 g2 _ _ _ _ _ w9 ((hb9.block g1 (z0c (uh HT1))).trans (uh HT1)) ht2)
     clear ht2 hb9 HA2 HK8 hg2
     go_wp2_with fail
     refine (uh HS).mono ?_
     rintro e w10 ⟨rfl, m10, hw10⟩
     have HKM := zh (show KTwin w.heap.size w w10 R gb gb2 gp L from ⟨_, (uh HK9).below (by rw [hw10]; exact below_drewN (Below.refl _ _) _) (Nat.le_refl _)⟩)
     clear hw10 HS
     go_wp2
     exact ⟨⟨m + 1, by go_num, by omega, uh HKM⟩, by simp [intOf]; omega⟩
    ·have z1 : decide (0 < fr.size) = true := decide_eq_true (by omega)
     have z2 : 0 < fr.size := by omega
     obtain ⟨n1, hn1⟩ : ∃ n, n = fr.size - 1 := ⟨_, rfl⟩
     have en1 : (fr.size : Int) - 1 = n1 := by omega
     have z3 : n1 < fr.size := by omega
     have z4 : n1 <= 140737488355328 := by omega
     have z5 : n1 <= fr.size := by omega
     have z6 : (n1 : Int) <= fr.size := by omega
     have z7 : (0 : Int) <= n1 := by omega
     obtain ⟨s4, hs4⟩ : ∃ t, t = fr.extract 0 n1 := ⟨_, rfl⟩
     have zz4 : ∀ W : World, (Instr.slice 9 (.string fr) none (some (.int .i64 (n1 : Int))) none).run Tryz.prog W = .ok (.string s4) W := fun W => by
      have := run_slice_string_to_if (P := Tryz.prog) (w := W) 9 fr .i64 (n1 : Int) Tryz.underlying9
      rw [this, if_pos ⟨z7, z6⟩, hs4]
      rfl
     have HS4 := zh (show s4.size <= maxLen by
      have := uh HFM
      rw [hs4, ByteArray.size_extract]
      omega)
     have HI4 := zh (fun (wz : World) (t : ByteArray) (hb : Below w4.heap.size w4 wz) (ht : t.size <= maxLen) => ((uh HK4).below hb (Nat.le_refl _)).ign (Nat.le_refl _) t ht)
     clear hn1 hs4 z3
     go_wp2
     have z12 : IntKind.i64.wrap (n1 : Int) = n1 := Go.IntWalk.i64_in _ (by omega)
     go_region_with (first | (go_at_call 10; refine (uh HI4 _ _ ?_ ?_).mono ?_; (first | exact (Below.refl _ _).drew | exact (Below.refl _ _).drew.drew | exact Below.refl _ _); exact uh HS4; rintro e wq ⟨rfl, hKq⟩; have HKq := zh hKq; have cq := uh HCM wq hKq.be; have gq := uh HGZ wq hKq.be; clear hKq c4 g4) | fail)
     all_goals
      have HC1 := zh ((uh HKq).cyc1 (Nat.le_refl _) fr)
      go_wp2_with fail
      refine (uh HC1).mono ?_
      rintro e w5 ⟨rfl, hK5⟩
      have HC2 := zh (hK5.cyc2 (Nat.le_refl _) fr)
      have c5 := uh HCM w5 hK5.be
      have g5 := uh HGZ w5 hK5.be
      clear hK5 HC1 cq gq
      go_wp2_with fail
      refine (uh HC2).mono ?_
      rintro e w6 ⟨rfl, hK6⟩
      have HH := zh ((uh HK).hear hK6.plan fr (uh HFM))
      have HK6 := zh hK6
      have c6 := uh HCM w6 hK6.be
      have g6 := uh HGZ w6 hK6.be
      clear hK6 HC2 c5 g5
      go_wp2_with fail
      refine (uh HH).mono ?_
      rintro e w7 ⟨v7, rfl, hb7⟩
      have HK7 := zh ((uh HK6).below hb7 (Nat.le_refl _))
      have HA1 := zh (uh HK7).ask1
      clear hb7 HH c6 g6 HK6
      go_wp2_with fail
      refine (uh HA1).mono ?_
      rintro e w8 ⟨g1, rfl, hg1, ht1, hb8⟩
      have HK8 := zh ((uh HK7).below hb8 (Nat.le_refl _))
      have HT1 := zh ht1
      have HA2 := zh (uh HK8).ask2
      clear ht1 hb8 HA1 HK7 hg1
      go_wp2_with fail
      refine (uh HA2).mono ?_
      rintro e w9 ⟨g2, rfl, hg2, ht2, hb9⟩
      have HK9 := zh ((uh HK8).below hb9 (Nat.le_refl _))
      have HS := zh (ksame_yes g1 g2 _ _ _ _ _ w9 ((hb9.block g1 (z0c (uh HT1))).trans (uh HT1)) ht2)
      clear ht2 hb9 HA2 HK8 hg2
      go_wp2_with fail
      refine (uh HS).mono ?_
      rintro e w10 ⟨rfl, m10, hw10⟩
      have HKM := zh (show KTwin w.heap.size w w10 R gb gb2 gp L from ⟨_, (uh HK9).below (by rw [hw10]; exact below_drewN (Below.refl _ _) _) (Nat.le_refl _)⟩)
      clear hw10 HS
      go_wp2
      exact ⟨⟨m + 1, by go_num, by omega, uh HKM⟩, by simp [intOf]; omega⟩
   ·have l1 : ¬ (m : Int) < len := by omega
    have HB := zh (show Below w.heap.size w wr by obtain ⟨C, hK⟩ := hM; exact hK.be)
    clear hM HM0
    go_wp2
    go_ret
    exact ⟨rfl, uh HB⟩
end Go.Proofs.YtkbpocecbcaiiabGreatDoor
