import Derived.Test.YtkbpocecbcaiiabGreatDoorN41
import Derived.StillTailTactics
namespace Go.Proofs.YtkbpocecbcaiiabGreatDoor
open Go.RowKit
def ansS (lamps moves as_ sv : ByteArray) : ByteArray := (((((((⟨#[61]⟩ : ByteArray) ++ lamps) ++ ⟨#[47]⟩) ++ moves) ++ ⟨#[47]⟩) ++ as_) ++ ⟨#[47]⟩) ++ sv
set_option maxRecDepth 100000 in
set_option maxHeartbeats 8000000 in
theorem answer_any (g : Nat) (B : PBx) (vfr va vb : Value) (f : PFr) (as_ sv : List Nat) (w : World) (h : PBoxAt w g B) (hf : FrP w vfr f) (ha : Byts w va as_) (hb : Ints w vb sv) (hr : B.rts.length <= 1000) (hok : ∀ y, y ∈ B.rts -> PRtOK y) (hl : B.sws.length <= 1000) (hs9 : ∀ t, t ∈ sv -> t < 9) (hsl : sv.length <= 1000)
  (hz1 : as_.length <= 1000) :
  Calls Tryz.prog 38 #[.pointer (some ⟨g, 0, none⟩), vfr, va, vb] w fun e w' => e = .returned (.string (ansS (z0g B.lampsT) (z0g (B.movesT f)) (z0g as_) (z21 sv))) /\ Below w.heap.size w w' := by
 have HSI := zh (fun (wz : World) (hz : Below w.heap.size w wz) => signals_any g B wz (h.below hz) hr)
 have HMO := zh (fun (wz : World) (hz : Below w.heap.size w wz) => moves_any g B _ f wz (h.below hz) (hf.below hz) hr hok hl)
 have HDI := zh (fun (wz : World) (hz : Below w.heap.size w wz) => digits_any vb sv wz (hb.keep (Keeps.below hz)) hs9 hsl)
 have HCV := zh (fun (wz : World) (hz : Below w.heap.size w wz) => byts_str (ha.keep (Keeps.below hz)))
 obtain ⟨vc, vo, vr9, rfl, h1, h2, h3⟩ := hf
 obtain ⟨ac, cc, rfl, -⟩ := SlAt.open h1
 obtain ⟨ao, co, rfl, -⟩ := SlAt.open h2
 obtain ⟨ap, cp, rfl, -⟩ := SlAt.open h3
 obtain ⟨aa, ca, rfl, -⟩ := SlAt.open ha
 obtain ⟨ab, cb, rfl, -⟩ := SlAt.open hb
 have HFB := zh (heap_alloc_new w (z0r (.slice ac f.cmds.length cc) (.slice ao f.occ.length co) (.slice ap f.rep.length cp)))
 have HW0 := zh (z02 w (z0r (.slice ac f.cmds.length cc) (.slice ao f.occ.length co) (.slice ap f.rep.length cp)))
 clear h1 h2 h3 ha hb h hok hs9
 have z1 : (z0g B.lampsT).size <= 1000 := by rw [z3q]; simp [PBx.lampsT]; exact hr
 have z2 : (z0g (B.movesT f)).size <= 1000 := by
  rw [z3q]
  have := flat_le (B.moveT f) (by intro s; unfold PBx.moveT; split <;> simp) B.sws.length
  unfold PBx.movesT
  omega
 have z3 : (z0g as_).size <= 1000 := by rw [z3q]; exact hz1
 have z4 : (z21 sv).size <= 1000 := by rw [z2l]; exact hsl
 unfold ansS
 generalize z0g B.lampsT = t1 at *
 generalize z0g (B.movesT f) = t2 at *
 generalize z0g as_ = t3 at *
 generalize z21 sv = t4 at *
 have zz : ∀ a b : ByteArray, a.size <= 8000 -> b.size <= 1000 -> ∀ W : World, (Op.stringOp .add a b).run Tryz.prog W = .ok (.string (a ++ b)) W := fun a b ha hb W => run_string_add W a b (by omega) (by omega)
 obtain ⟨s1, e1⟩ : ∃ s, (⟨#[61]⟩ : ByteArray) ++ t1 = s := ⟨_, rfl⟩
 obtain ⟨s2, e2⟩ : ∃ s, s1 ++ (⟨#[47]⟩ : ByteArray) = s := ⟨_, rfl⟩
 obtain ⟨s3, e3⟩ : ∃ s, s2 ++ t2 = s := ⟨_, rfl⟩
 obtain ⟨s4, e4⟩ : ∃ s, s3 ++ (⟨#[47]⟩ : ByteArray) = s := ⟨_, rfl⟩
 obtain ⟨s5, e5⟩ : ∃ s, s4 ++ t3 = s := ⟨_, rfl⟩
 obtain ⟨s6, e6⟩ : ∃ s, s5 ++ (⟨#[47]⟩ : ByteArray) = s := ⟨_, rfl⟩
 obtain ⟨s7, e7⟩ : ∃ s, s6 ++ t4 = s := ⟨_, rfl⟩
 have k0 : (⟨#[61]⟩ : ByteArray).size = 1 := rfl
 have k00 : (⟨#[47]⟩ : ByteArray).size = 1 := rfl
 have k1 : s1.size <= 1001 := by rw [<- e1, ByteArray.size_append]; omega
 have k2 : s2.size <= 1002 := by rw [<- e2, ByteArray.size_append]; omega
 have k3 : s3.size <= 2002 := by rw [<- e3, ByteArray.size_append]; omega
 have k4 : s4.size <= 2003 := by rw [<- e4, ByteArray.size_append]; omega
 have k5 : s5.size <= 3003 := by rw [<- e5, ByteArray.size_append]; omega
 have k6 : s6.size <= 3004 := by rw [<- e6, ByteArray.size_append]; omega
 have j1 := zz ⟨#[61]⟩ t1 (by omega) (by omega)
 have j2 := zz s1 ⟨#[47]⟩ (by omega) (by omega)
 have j3 := zz s2 t2 (by omega) (by omega)
 have j4 := zz s3 ⟨#[47]⟩ (by omega) (by omega)
 have j5 := zz s4 t3 (by omega) (by omega)
 have j6 := zz s5 ⟨#[47]⟩ (by omega) (by omega)
 have j7 := zz s6 t4 (by omega) (by omega)
 rw [e1] at j1
 rw [e2] at j2
 rw [e3] at j3
 rw [e4] at j4
 rw [e5] at j5
 rw [e6] at j6
 rw [e7] at j7
 rw [e1, e2, e3, e4, e5, e6, e7]
 clear zz e1 e2 e3 e4 e5 e6 e7 k0 k00
 go_enter Tryz.func38, Tryz.ntmps38
 go_wp2
 generalize hW1 : World.alloc _ _ = W1
 have hB1 : Below w.heap.size w W1 := by rw [<- hW1]; exact uh HW0
 have hfb : W1.heap[w.heap.size]? = some (z0r (.slice ac f.cmds.length cc) (.slice ao f.occ.length co) (.slice ap f.rep.length cp)) := by rw [<- hW1]; exact uh HFB
 obtain ⟨⟨y0, y1, y2⟩, -, qf⟩ := tri0 hfb
 have hcv1 := uh HCV W1.drew hB1.drew
 have HB1 := zh hB1
 have HF1 := zh hfb
 clear hW1 hB1 hfb HW0 HFB hr hl hsl hz1
 generalize f.cmds.length = nc at *
 generalize f.occ.length = no at *
 generalize f.rep.length = nr at *
 generalize as_.length = na at *
 generalize sv.length = ns at *
 go_region_with (first
  | (go_at_call 80; refine (uh HSI _ ?_).mono ?_; (first | exact (uh HB1).drew | exact (uh HB1)); rintro e w2 ⟨rfl, hb2⟩; have hB2 : Below w.heap.size w w2 := (uh HB1).drew.trans (hb2.mono (uh HB1).size); have hcv2 := uh HCV w2 hB2; have HB2 := zh hB2; obtain ⟨⟨u0, u1, u2⟩, -, qu⟩ := tri0 ((hb2.block w.heap.size qf).trans (uh HF1)); clear hb2 hB2)
  | (go_at_call 81; refine (uh HMO _ ?_).mono ?_; (first | exact (uh HB2)); rintro e w3 ⟨rfl, hb3⟩; have hB3 : Below w.heap.size w w3 := (uh HB2).trans (hb3.mono (uh HB2).size); have hcv3 := uh HCV w3 hB3; have HB3 := zh hB3; clear hb3 hB3)
  | (go_at_call 82; refine (uh HDI _ ?_).mono ?_; (first | exact (uh HB3)); rintro e w4 ⟨rfl, hw4⟩; subst hw4))
 all_goals
  go_wp2
  go_ret
  exact ⟨rfl, uh HB3⟩
end Go.Proofs.YtkbpocecbcaiiabGreatDoor
namespace Go.Proofs.YtkbpocecbcaiiabGreatDoor
open Go.RowKit
def PBx.s1 (B : PBx) (f : PFr) : PBx := B.lateN f B.sws.length
def PBx.s2 (B : PBx) (f : PFr) : PBx := (B.s1 f).stepN f (B.s1 f).rts.length
def PBx.s3 (B : PBx) (f : PFr) : PBx := (B.s2 f).doN f f.cmds.length
def PBx.s4 (B : PBx) (f : PFr) : PBx := (B.s3 f).grants f
def PBx.ansB (B : PBx) (f : PFr) : ByteArray := ansS (z0g (B.s4 f).lampsT) (z0g ((B.s4 f).movesT f)) (z0g ((B.s2 f).doAs f f.cmds.length)) (z21 ((B.s3 f).servN f (B.s3 f).waits.length))
def PBx.cyc (B : PBx) (s : ByteArray) : PBx := if B.L.frameB s then B.s4 (B.L.pfrOf s) else B
def PBx.ans (B : PBx) (s : ByteArray) : ByteArray := if B.L.frameB s then B.ansB (B.L.pfrOf s) else ⟨#[33]⟩
structure CycOK (B : PBx) (f : PFr) : Prop where
 g0 : PGd B
 T : B.L.T <= 1000
 late : ∀ x, x ∈ B.sws -> x.late <= 1000
 sws : B.sws.length <= 1000
 gave : ∀ k (hk : k < (B.s1 f).rts.length), (B.s1 f).rts[k].gave f = true -> 0 < ((B.s1 f).stepN f k).sta.getD (B.s1 f).rts[k].train 0 /\ ((B.s1 f).stepN f k).sta.getD (B.s1 f).rts[k].train 0 <= 1000
 w2 : (B.s2 f).waits.length <= 500
 cm : f.cmds.length <= 100
 g3 : PGd (B.s3 f)
 w3 : (B.s3 f).waits.length <= 1000
 g4 : (B.s4 f).rts.length <= 1000 /\ (∀ y, y ∈ (B.s4 f).rts -> PRtOK y) /\ (B.s4 f).sws.length <= 1000
 sv : (∀ t, t ∈ (B.s3 f).servN f (B.s3 f).waits.length -> t < 9) /\ ((B.s3 f).servN f (B.s3 f).waits.length).length <= 1000
 da : ((B.s2 f).doAs f f.cmds.length).length <= 1000
structure Stg (w wk : World) (l : Nat) (o : Obj) (D Dk P : Nat -> Prop) (g : Nat) (B : PBx) (vfr : Value) (f : PFr) : Prop where
 boxf : BoxF wk Dk P g B vfr f
 from_ : ∀ b, Dk b -> D b \/ (w.heap.size <= b /\ b ≠ l)
 only : Only D w wk
 fr : wk.heap[l]? = some o
theorem Stg.op {w wk wl : World} {l : Nat} {o : Obj} {D Dk Dl P : Nat -> Prop} {g : Nat} {B B' : PBx} {vfr : Value} {f : PFr} (h : Stg w wk l o D Dk P g B vfr f) (hD : ∀ b, D b -> b < w.heap.size) (hl : w.heap.size <= l) (hb : BoxF wl Dl P g B' vfr f) (ho : Only Dk wk wl) (hd : ∀ b, Dl b -> Dk b \/ wk.heap.size <= b) : Stg w wl l o D Dl P g B' vfr f := by
 have hlt := z0c h.fr
 refine ⟨hb, fun b hb => ?_, h.only.far ho (fun i hi hd => ?_), ?_⟩
 ·rcases hd b hb with h1 | h1
  ·exact h.from_ b h1
  ·have := h.only.size; exact Or.inr ⟨by omega, by omega⟩
 ·rcases h.from_ i hd with h1 | h1
  ·exact h1
  ·omega
 ·rw [ho.block _ hlt (fun hd => by
   rcases h.from_ _ hd with h1 | h1
   ·have := hD _ h1; omega
   ·exact h1.2 rfl)]
  exact h.fr
set_option maxRecDepth 100000 in
set_option maxHeartbeats 8000000 in
theorem pCycle_any (D : Nat -> Prop) (g : Nat) (B : PBx) (s : ByteArray) (w : World) (h : PBoxIn w D g B) (hc : B.L.frameB s = true -> CycOK B (B.L.pfrOf s)) :
  Calls Tryz.prog 11 #[.pointer (some ⟨g, 0, none⟩), .string s] w fun e w' => e = .returned (.string (B.ans s)) /\ PBoxIn w' (grow D w w') g (B.cyc s) /\ Only D w w' := by
 obtain ⟨R, vs, vr, vt, vl, vw, va, vq, qs, hM, h1, h2, h3⟩ := id h
 have HRD := zh (fRead_any _ B.L s w (hM.plan.2 w (fun _ _ => rfl)))
 obtain ⟨⟨q0, q1, q2, q3, q4, q5, q6, q7, q8, q9⟩, -, qg⟩ := box10 hM.box
 obtain ⟨_, _, _, he, hS, hRo, hT⟩ := hM.plan.2 w (fun _ _ => rfl)
 simp only [Value.agg.injEq, Array.mk.injEq, List.cons.injEq, and_true, true_and] at he
 obtain ⟨rfl, rfl, rfl⟩ := he
 obtain ⟨b1, e1, rfl, -⟩ := SlAt.open hS
 obtain ⟨b2, e2, rfl, -⟩ := SlAt.open hRo
 obtain ⟨b3, e3, rfl, -⟩ := SlAt.open hT
 have HB := zh h
 have HC := zh hc
 have HAN := zh (And.intro (PBx.ans.eq_1 B s) (PBx.cyc.eq_1 B s))
 clear hS hRo hT hM h1 h2 h3 h hc q6 q7 q8 q9
 obtain ⟨f, hf⟩ : ∃ f, B.L.pfrOf s = f := ⟨_, rfl⟩
 rw [hf] at HAN HC HRD
 clear hf
 obtain ⟨bf, hbf⟩ : ∃ b, B.L.frameB s = b := ⟨_, rfl⟩
 rw [hbf] at HAN HC HRD
 clear hbf
 go_enter Tryz.func11, Tryz.ntmps11
 go_wp2_with fail
 refine (uh HRD).mono ?_
 rintro e w1 ⟨v1, rfl, ⟨a1, a2, a3, n1, n2, n3, c1, c2, c3, rfl⟩, hF1, hb1⟩
 have HB1 := zh hb1
 clear q0 q1 q2 q3 q4 q5 HRD
 cases bf with
 | false =>
  have HA2 := zh (show B.ans s = ⟨#[33]⟩ /\ B.cyc s = B from ⟨(uh HAN).1, (uh HAN).2⟩)
  clear hF1 hb1
  go_wp2
  go_ret
  have hb2 := (uh HB1).trans ((z02 w1 (.cells #[.slice a1 n1 c1, .slice a2 n2 c2, .slice a3 n3 c3] 76)).mono (uh HB1).size)
  refine ⟨by rw [(uh HA2).1] <;> rfl, ?_, Only.of_below hb2⟩
  rw [(uh HA2).2]
  exact ((uh HB).only (Only.of_below (F := fun _ => False) hb2) (fun _ _ h => h)).mono (fun b hb => Or.inl hb) (grow_lt (uh HB).lt hb2.size)
 | true =>
  have HA2 := zh (show B.ans s = B.ansB f /\ B.cyc s = B.s4 f from ⟨(uh HAN).1, (uh HAN).2⟩)
  have hCO := uh HC rfl
  have HCO := zh hCO
  have hfr := hF1 rfl
  have hD := (uh HB).lt
  have hbf0 : BoxF w1 D (fun k => w.heap.size <= k /\ k < w1.heap.size) g B (.agg #[.slice a1 n1 c1, .slice a2 n2 c2, .slice a3 n3 c3]) f :=
   ⟨(uh HB).only (Only.of_below (F := fun _ => False) hb1) (fun _ _ h => h), hfr, fun b hb hd => by have := hD b hd; have := hb.1; omega⟩
  obtain ⟨W2, hW2⟩ : ∃ W2, W2 = w1.alloc (z0r (.slice a1 n1 c1) (.slice a2 n2 c2) (.slice a3 n3 c3)) := ⟨_, rfl⟩
  have hbf2 := hbf0.below (z02 w1 (z0r (.slice a1 n1 c1) (.slice a2 n2 c2) (.slice a3 n3 c3)))
  have hfb2 := heap_alloc_new w1 (z0r (.slice a1 n1 c1) (.slice a2 n2 c2) (.slice a3 n3 c3))
  have hbw2 : Below w.heap.size w W2 := by rw [hW2]; exact hb1.trans ((z02 w1 _).mono hb1.size)
  rw [<- hW2] at hbf2 hfb2
  have HW2 := zh hbw2
  have HF2 := zh hfb2
  have HBF2 := zh hbf2
  have H1 := zh (countLate_f D _ g B _ f W2 hbf2 hCO.g0.rl (fun x hx => (hCO.g0.ok x hx).freed) hCO.T hCO.late)
  rw [hW2] at H1
  have hz2 : w1.heap.size < W2.heap.size := by rw [hW2]; simp
  clear hF1 hfr hbf0 hbf2 hfb2 hbw2 hb1 hCO
  go_wp2_with fail
  refine (uh H1).mono ?_
  rw [<- hW2]
  rintro e w3 ⟨rfl, hB3, hO3⟩
  have hDD := (uh HB).lt
  have hlw : w.heap.size <= w1.heap.size := (uh HB1).size
  have HS2 := zh (show Stg w W2 w1.heap.size (z0r (.slice a1 n1 c1) (.slice a2 n2 c2) (.slice a3 n3 c3)) D D (fun k => w.heap.size <= k /\ k < w1.heap.size) g B (.agg #[.slice a1 n1 c1, .slice a2 n2 c2, .slice a3 n3 c3]) f from ⟨uh HBF2, fun b hb => Or.inl hb, Only.of_below (uh HW2), uh HF2⟩)
  have hS3 := (uh HS2).op hDD hlw hB3 hO3 (fun b hb => by
   rcases hb with hb | hb
   ·exact Or.inl hb
   ·exact Or.inr hb.1)
  have HS3 := zh hS3
  have HDD := zh hDD
  have hCO := uh HCO
  obtain ⟨l1, l2, l3, l4, l5⟩ := lateN_pres B f B.sws.length
  have hr1 : (B.s1 f).rts = B.rts := l2
  have H2 := zh (stepRoutes_f _ _ g (B.s1 f) _ f w3 hS3.boxf (by rw [hr1]; exact hCO.g0.rl) (by rw [hr1]; exact hCO.g0.ok) hCO.gave)
  obtain ⟨⟨y0, y1, y2⟩, -, qf⟩ := tri0 hS3.fr
  clear hB3 hO3 hS3 hDD H1 HBF2 HW2 HF2 hCO l1 l2 l3 l4 l5 hr1 hW2
  go_wp2_with fail
  refine (uh H2).mono ?_
  rintro e w4 ⟨rfl, hB4, hO4⟩
  have hS4 := (uh HS3).op (uh HDD) hlw hB4 hO4 (fun b hb => by
   rcases hb with hb | hb
   ·exact Or.inl hb
   ·exact Or.inr hb.1)
  have HS4 := zh hS4
  have H3 := zh (obey_any _ _ g (B.s2 f) _ f w4 hS4.boxf (uh HCO).w2 (uh HCO).cm)
  clear y0 y1 y2 qf
  obtain ⟨⟨y0, y1, y2⟩, -, qf⟩ := tri0 hS4.fr
  clear hB4 hO4 hS4 H2 HS3 HS2
  go_wp2_with fail
  refine (uh H3).mono ?_
  rintro e w5 ⟨v5, rfl, D5, o5, hBs, hown5, hnd5⟩
  have hS5 := (uh HS4).op (uh HDD) hlw hBs.boxf hBs.only (fun b hb => (hBs.from_ b hb).imp id (fun h => Nat.le_of_lt h))
  have HS5 := zh hS5
  have H4 := zh (grantFromQueue_any _ _ g (B.s3 f) _ f w5 hS5.boxf (uh HCO).g3 (uh HCO).w3)
  have HO5 := zh (And.intro hown5 hnd5)
  obtain ⟨av, cv, hv5⟩ := z03 hown5
  subst hv5
  clear y0 y1 y2 qf
  obtain ⟨⟨y0, y1, y2⟩, -, qf⟩ := tri0 hS5.fr
  clear hBs hown5 hnd5 hS5 H3 HS4
  go_wp2_with fail
  refine (uh H4).mono ?_
  rintro e w6 ⟨v6, rfl, D6, o6, hBs, hown6, hnd6⟩
  have hS6 := (uh HS5).op (uh HDD) hlw hBs.boxf hBs.only (fun b hb => (hBs.from_ b hb).imp id (fun h => Nat.le_of_lt h))
  have HS6 := zh hS6
  have hown5' := own_only (uh HO5).1 hBs.only (uh HO5).2
  have hCO := uh HCO
  have H5 := zh (answer_any g (B.s4 f) _ _ v6 f _ _ w6 hS6.boxf.box.at hS6.boxf.frame.at (Byts.ofOwn hown5' rfl) (Ints.ofOwn hown6 rfl) hCO.g4.1 hCO.g4.2.1 hCO.g4.2.2 hCO.sv.1 hCO.sv.2 hCO.da)
  obtain ⟨a6, c6, hv6⟩ := z03 hown6
  subst hv6
  clear y0 y1 y2 qf
  obtain ⟨⟨y0, y1, y2⟩, -, qf⟩ := tri0 hS6.fr
  clear hBs hown6 hnd6 hS6 H4 HS5 hown5' hCO HO5
  go_wp2_with fail
  refine (uh H5).mono ?_
  rintro e w7 ⟨rfl, hb7⟩
  have hS6 := uh HS6
  have HFIN := zh (show PBoxIn w7 (grow D w w7) g (B.s4 f) /\ Only D w w7 from ⟨(hS6.boxf.box.only (Only.of_below (F := fun _ => False) hb7) (fun _ _ h => h)).mono (fun b hb => by
    have hlt := hS6.boxf.box.lt b hb
    rcases hS6.from_ b hb with h5 | h5
    ·exact Or.inl h5
    ·exact Or.inr ⟨h5.1, Nat.lt_of_lt_of_le hlt hb7.size⟩) (grow_lt (uh HDD) (Nat.le_trans hS6.only.size hb7.size)), hS6.only.trans (Only.of_below hb7)⟩)
  clear hb7 hS6 H5 y0 y1 y2
  go_wp2
  go_ret
  exact ⟨by rw [(uh HA2).1] <;> rfl, by rw [(uh HA2).2]; exact (uh HFIN).1, (uh HFIN).2⟩
def RBx.doA (C : RBx) (c x : Nat) : Nat :=
 if c = 114 then C.askA (x - 49) else if c = 99 then (if C.canc (x - 65) then 107 else 110) else if C.failed.getD (x - 97) false then 109 else 110
def RBx.doC (C : RBx) (f : Fr) (c x : Nat) : RBx :=
 if c = 114 then C.ask (x - 49) else if c = 99 then C.cancel f (x - 65) else if C.failed.getD (x - 97) false then { C with failed := C.failed.set (x - 97) false } else C
end Go.Proofs.YtkbpocecbcaiiabGreatDoor
namespace Go.Proofs.YtkbpocecbcaiiabGreatDoor
open Go.RowKit
end Go.Proofs.YtkbpocecbcaiiabGreatDoor
namespace Go.Proofs.YtkbpocecbcaiiabGreatDoor
open Go.RowKit
theorem own_onlyR {w w' : World} {F : Nat -> Prop} {b : Nat} {e : TypeId} {sz : Nat} {v : Value} {n : Nat} {xs : List Value} (h : w.ownsRow b e sz v n xs) (ho : Only F w w') (hn : ∀ k, v.ownBlock = some k -> ¬ F k) : w'.ownsRow b e sz v n xs :=
 z1v (P := fun k => k < w.heap.size /\ ¬ F k) h (fun k hk => ho.block k hk.1 hk.2) (fun k hk => ⟨(h.lt k hk).2, hn k hk⟩)
structure WatchOK (C : RBx) (f : Fr) : Prop where
 sw : C.L.sw.length <= 1000
 wl : C.wanted.length = C.L.sw.length
 fl : C.failed.length = C.L.sw.length
 dl : C.late.length = C.L.sw.length
 pl : f.rep.length = C.L.sw.length
 ll : C.lines.length <= C.L.rts.length
 r1 : C.L.rts.length <= 1000
 go : ∀ x, x ∈ C.lines -> x.gone <= 1000
 lb : ∀ x, x ∈ C.late -> x <= 1000
structure DoOK (C : RBx) (f : Fr) : Prop where
 l : C.lines.length = C.L.rts.length
 st : C.sta.length = C.L.tns.length
 fl : C.failed.length = C.L.sw.length
 wl : C.waits.length <= 1000
 ft : ∀ r, r < C.L.rts.length -> (C.L.rt r).foot < f.occ.length
def RLnW (t : Nat) : RLn := ⟨119, t, false, [], 0, 0⟩
end Go.Proofs.YtkbpocecbcaiiabGreatDoor
namespace Go.Proofs.YtkbpocecbcaiiabGreatDoor
open Go.RowKit
def RBx.nxt (C : RBx) (t : Nat) : Nat := (C.L.tn t).jny.getD (C.sta.getD t 0) 0
def RBx.more (C : RBx) (t : Nat) : List Nat := C.sta.set t (C.sta.getD t 0 + 1)
def RBx.grantB (C : RBx) (f : Fr) (t : Nat) : Bool := !C.isSet t && C.free f (C.nxt t) && C.L.sound (C.more t)
def RBx.wantK (C : RBx) (r k : Nat) : RBx := if C.L.wantsF r k = 0 then C else { C with wanted := C.wanted.set k (C.L.wantsF r k) }
def RBx.wantN (C : RBx) (r : Nat) : Nat -> RBx
 | 0 => C
 | k + 1 => (C.wantN r k).wantK r k
def RBx.given (C : RBx) (r t : Nat) : RBx := (({ C with sta := C.more t } : RBx).wantN r C.L.sw.length).put r (RLnW t)
def RBx.grant (C : RBx) (f : Fr) (t : Nat) : RBx := if C.grantB f t then C.given (C.nxt t) t else C
theorem rwantN_pres (C : RBx) (r k : Nat) : (C.wantN r k).L = C.L /\ (C.wantN r k).lines = C.lines /\ (C.wantN r k).sta = C.sta /\ (C.wantN r k).waits = C.waits /\ (C.wantN r k).wanted.length = C.wanted.length /\ (C.wantN r k).failed = C.failed /\ (C.wantN r k).late = C.late := by
 induction k with
 | zero => exact ⟨rfl, rfl, rfl, rfl, rfl, rfl, rfl⟩
 | succ k ih =>
  have h : ∀ (D : RBx), (D.wantK r k).L = D.L /\ (D.wantK r k).lines = D.lines /\ (D.wantK r k).sta = D.sta /\ (D.wantK r k).waits = D.waits /\ (D.wantK r k).wanted.length = D.wanted.length /\ (D.wantK r k).failed = D.failed /\ (D.wantK r k).late = D.late := by
   intro D; unfold RBx.wantK; split <;> simp
  obtain ⟨a, b, c, d, e, f, j⟩ := h (C.wantN r k)
  exact ⟨a.trans ih.1, b.trans ih.2.1, c.trans ih.2.2.1, d.trans ih.2.2.2.1, e.trans ih.2.2.2.2.1, f.trans ih.2.2.2.2.2.1, j.trans ih.2.2.2.2.2.2⟩
structure GrantOK (C : RBx) (f : Fr) (t : Nat) : Prop where
 pa : C.L.Paths
 jn : C.L.Jnys
 tn : C.L.tns.length <= 1000
 ll : C.lines.length = C.L.rts.length
 r1 : C.L.rts.length <= 1000
 sw : C.L.sw.length <= 1000
 occ : f.occ.length = C.L.sw.length
 fl : C.failed.length = C.L.sw.length
 wl : C.wanted.length = C.L.sw.length
 go : ∀ x, x ∈ C.lines -> x.gone <= 1000
 st : C.sta.length = C.L.tns.length
 ht : t < C.L.tns.length
 hj : C.sta.getD t 0 < (C.L.tn t).jny.length
 s9 : C.sta.getD t 0 <= 1000
end Go.Proofs.YtkbpocecbcaiiabGreatDoor
namespace Go.Proofs.YtkbpocecbcaiiabGreatDoor
open Go.RowKit
def RBx.grantN (C : RBx) (f : Fr) : Nat -> RBx
 | 0 => C
 | k + 1 => (C.grantN f k).grant f (C.waits.getD k 0)
def RBx.servN (C : RBx) (f : Fr) : Nat -> List Nat
 | 0 => []
 | k + 1 => if (C.grantN f k).grantB f (C.waits.getD k 0) then C.servN f k ++ [C.waits.getD k 0] else C.servN f k
def RBx.leftN (C : RBx) (f : Fr) : Nat -> List Nat
 | 0 => []
 | k + 1 => if (C.grantN f k).grantB f (C.waits.getD k 0) then C.leftN f k else C.leftN f k ++ [C.waits.getD k 0]
def RBx.grants (C : RBx) (f : Fr) : RBx := { C.grantN f C.waits.length with waits := C.leftN f C.waits.length }
end Go.Proofs.YtkbpocecbcaiiabGreatDoor
namespace Go.Proofs.YtkbpocecbcaiiabGreatDoor
open Go.RowKit
def RBx.stepN (C : RBx) (f : Fr) : Nat -> RBx
 | 0 => C
 | k + 1 => (C.stepN f k).step f k
def RBx.doN (C : RBx) (f : Fr) : Nat -> RBx
 | 0 => C
 | k + 1 => (C.doN f k).doC f (pk f.cmds (2 * k)) (pk f.cmds (2 * k + 1))
def RBx.doAt (C : RBx) (f : Fr) (j : Nat) : Nat := (C.doN f j).doA (pk f.cmds (2 * j)) (pk f.cmds (2 * j + 1))
def RBx.doAs (C : RBx) (f : Fr) (k : Nat) : List Nat := (List.range k).map (C.doAt f)
def RBx.s1 (C : RBx) (f : Fr) : RBx := C.watch f
def RBx.s2 (C : RBx) (f : Fr) : RBx := (C.s1 f).stepN f (C.s1 f).lines.length
def RBx.s3 (C : RBx) (f : Fr) : RBx := (C.s2 f).doN f (f.cmds.size / 2)
def RBx.s4 (C : RBx) (f : Fr) : RBx := (C.s3 f).grants f
def rlampC (x : RLn) : Nat := if x.ph = 103 then 103 else 114
def RBx.lampsT (C : RBx) : List Nat := C.lines.map rlampC
def RBx.moveT (C : RBx) (f : Fr) (s : Nat) : List Nat := if C.L.sw.getD s false then [C.moveF f s] else []
def RBx.movesT (C : RBx) (f : Fr) : List Nat := (List.range C.L.sw.length).flatMap (C.moveT f)
def ansL (lamps moves as_ sv : List Nat) : List Nat := [61] ++ lamps ++ [47] ++ moves ++ [47] ++ as_ ++ [47] ++ sv
def RBx.ansB (C : RBx) (f : Fr) : List Nat := ansL (C.s4 f).lampsT ((C.s4 f).movesT f) ((C.s2 f).doAs f (f.cmds.size / 2)) (((C.s3 f).servN f (C.s3 f).waits.length).map (49 + ·))
def RBx.cyc (C : RBx) (s : ByteArray) : RBx := if C.L.frameB s then C.s4 (C.L.frOf s) else C
def RBx.ans (C : RBx) (s : ByteArray) : ByteArray := if C.L.frameB s then z0g (C.ansB (C.L.frOf s)) else ⟨#[33]⟩
structure RCyc (C : RBx) (f : Fr) : Prop where
 wo : WatchOK C f
 st : ∀ k, k < (C.s1 f).lines.length -> StepOK ((C.s1 f).stepN f k) f k /\ ((C.s1 f).stepN f k).lines.length = (C.s1 f).lines.length
 sl : (C.s1 f).lines.length <= 1000
 dd : ∀ k, k < f.cmds.size / 2 -> DoOK ((C.s2 f).doN f k) f /\ ((C.s2 f).doN f k).L.cmdB (pk f.cmds (2 * k)) (pk f.cmds (2 * k + 1)) = true
 cz : f.cmds.size <= 1000
 ce : f.cmds.size % 2 = 0
 gr : ∀ k (hk : k < (C.s3 f).waits.length), GrantOK ((C.s3 f).grantN f k) f (C.s3 f).waits[k]
 w3 : (C.s3 f).waits.length <= 1000
 h9 : ∀ t, t ∈ (C.s3 f).waits -> t < 9
 w4 : WatchOK (C.s4 f) f
 o4 : f.occ.length = (C.s4 f).L.sw.length
end Go.Proofs.YtkbpocecbcaiiabGreatDoor
namespace Go.Proofs.YtkbpocecbcaiiabGreatDoor
open Go.RowKit
def FormOK : Prop := ∀ l : List UInt8, l.length <= 256 -> z1m 0 0 l = -1 -> Form l
set_option maxHeartbeats 400000 in
theorem rCheck_any (s : ByteArray) (w : World) (hF : FormOK) :
  Calls Tryz.prog 29 #[.string s] w fun e w' => e = .returned (.tuple #[.int .i64 (errOf s.data.toList).1, .int .i64 (errOf s.data.toList).2]) /\ Below w.heap.size w w' := by
 have H := zh (Read_any s w (fun h => hF _ (by simpa using h)))
 generalize errOf s.data.toList = E at *
 go_enter Tryz.func29, Tryz.ntmps29
 go_wp2_with fail
 refine (uh H).mono ?_
 rintro e w1 ⟨v, rfl, ⟨T, D, Q, a1, a2, a3, n1, n2, n3, d1, d2, d3, rfl⟩, -, hb⟩
 go_wp2
 go_ret2
 exact ⟨rfl, hb.trans ((z02 _ _).mono hb.size)⟩
def safeOf (l a : List UInt8) : Bool × Nat :=
 if (errOf l).1 ≠ 0 then (false, (errOf l).1)
 else if (layOf l).stateB a = false then (false, 7)
 else ((layOf l).sound (digs a), 0)
theorem err0 (l : List UInt8) (h : (errOf l).1 = 0) : l.length <= 256 /\ z1m 0 0 l = -1 /\ (layOf l).big = false /\ (∀ j, j < (layOf l).rts.length -> (layOf l).crooked ((layOf l).rt j) = false) /\ (∀ j, j < (layOf l).tns.length -> (layOf l).stray j = false) /\ (layOf l).sound (List.replicate (layOf l).tns.length 0) = true := by
 unfold errOf at h
 by_cases h1 : 256 < l.length
 ·rw [if_pos h1] at h; cases h
 rw [if_neg h1] at h
 by_cases h2 : z1m 0 0 l = -1
 ·rw [if_neg (by simp [h2])] at h
  cases h3 : (layOf l).big with
  | true => rw [h3] at h; cases h
  | false =>
   rw [h3, if_neg (by simp)] at h
   cases h4 : (List.range (layOf l).rts.length).find? (fun i => (layOf l).crooked ((layOf l).rt i)) with
   | some i => rw [h4] at h; cases h
   | none =>
    rw [h4] at h
    simp only at h
    cases h5 : (List.range (layOf l).tns.length).find? (fun i => (layOf l).stray i) with
    | some i => rw [h5] at h; cases h
    | none =>
     rw [h5] at h
     simp only at h
     cases h6 : (layOf l).sound (List.replicate (layOf l).tns.length 0) with
     | false => rw [h6] at h; cases h
     | true =>
      rw [List.find?_eq_none] at h4 h5
      refine ⟨by omega, h2, rfl, fun j hj => ?_, fun j hj => ?_, rfl⟩
      ·simpa using h4 j (List.mem_range.2 hj)
      ·simpa using h5 j (List.mem_range.2 hj)
 ·rw [if_pos h2] at h; cases h
def RBx.init (L : Lay) : RBx := ⟨L, List.replicate L.rts.length RLn0, L.sw.map (fun b => if b then 43 else 0), List.replicate L.sw.length false, List.replicate L.sw.length 0, List.replicate L.tns.length 0, []⟩
end Go.Proofs.YtkbpocecbcaiiabGreatDoor
namespace Go.Proofs.YtkbpocecbcaiiabGreatDoor
open Go.RowKit
end Go.Proofs.YtkbpocecbcaiiabGreatDoor
