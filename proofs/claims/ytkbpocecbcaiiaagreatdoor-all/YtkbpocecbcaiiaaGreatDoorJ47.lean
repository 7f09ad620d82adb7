import Derived.Test.YtkbpocecbcaiiaaGreatDoorJ46
import Derived.Test.YtkbpocecbcaiiaaGreatDoorJ40
namespace Go.Proofs.YtkbpocecbcaiiaaGreatDoor
open Go.RowKit
def PBx.s1 (B : PBx) (f : PFr) : PBx := B.lateN f B.sws.length
def PBx.s2 (B : PBx) (f : PFr) : PBx := (B.s1 f).stepN f (B.s1 f).rts.length
def PBx.s3 (B : PBx) (f : PFr) : PBx := (B.s2 f).doN f f.cmds.length
def PBx.s4 (B : PBx) (f : PFr) : PBx := (B.s3 f).grants f
def PBx.ansB (B : PBx) (f : PFr) : ByteArray := ansS (z09 (B.s4 f).lampsT) (z09 ((B.s4 f).movesT f)) (z09 ((B.s2 f).doAs f f.cmds.length)) (z1r ((B.s3 f).servN f (B.s3 f).waits.length))
def PBx.cyc (B : PBx) (s : ByteArray) : PBx := if B.L.frameB s then B.s4 (B.L.pfrOf s) else B
def PBx.ans (B : PBx) (s : ByteArray) : ByteArray := if B.L.frameB s then B.ansB (B.L.pfrOf s) else ⟨#[33]⟩
structure CycOK (B : PBx) (f : PFr) : Prop where
 g0 : PGd B
 T : B.L.T <= 1000
 late : ∀ x, x ∈ B.sws -> x.late <= 1000
 sws : B.sws.length <= 1000
 gave : ∀ k (hk : k < (B.s1 f).rts.length), (B.s1 f).rts[k].gave f = true -> 0 < ((B.s1 f).stepN f k).sta.getD (B.s1 f).rts[k].train 0 /\ ((B.s1 f).stepN f k).sta.getD (B.s1 f).rts[k].train 0 <= 1000
 w2 : (B.s2 f).waits.length <= 500
 cm : f.cmds.length <= 100
 g3 : PGd (B.s3 f)
 w3 : (B.s3 f).waits.length <= 1000
 g4 : (B.s4 f).rts.length <= 1000 /\ (∀ y, y ∈ (B.s4 f).rts -> PRtOK y) /\ (B.s4 f).sws.length <= 1000
 sv : (∀ t, t ∈ (B.s3 f).servN f (B.s3 f).waits.length -> t < 9) /\ ((B.s3 f).servN f (B.s3 f).waits.length).length <= 1000
 da : ((B.s2 f).doAs f f.cmds.length).length <= 1000
structure Stg (w wk : World) (l : Nat) (o : Obj) (D Dk P : Nat -> Prop) (g : Nat) (B : PBx) (vfr : Value) (f : PFr) : Prop where
 boxf : BoxF wk Dk P g B vfr f
 from_ : ∀ b, Dk b -> D b \/ (w.heap.size <= b /\ b ≠ l)
 only : Only D w wk
 fr : wk.heap[l]? = some o
theorem Stg.op {w wk wl : World} {l : Nat} {o : Obj} {D Dk Dl P : Nat -> Prop} {g : Nat} {B B' : PBx} {vfr : Value} {f : PFr} (h : Stg w wk l o D Dk P g B vfr f) (hD : ∀ b, D b -> b < w.heap.size) (hl : w.heap.size <= l) (hb : BoxF wl Dl P g B' vfr f) (ho : Only Dk wk wl) (hd : ∀ b, Dl b -> Dk b \/ wk.heap.size <= b) : Stg w wl l o D Dl P g B' vfr f := by
 have hlt := z0f h.fr
 refine ⟨hb, fun b hb => ?_, h.only.far ho (fun i hi hd => ?_), ?_⟩
 ·rcases hd b hb with h1 | h1
  ·exact h.from_ b h1
  ·have := h.only.size; exact Or.inr ⟨by omega, by omega⟩
 ·rcases h.from_ i hd with h1 | h1
  ·exact h1
  ·omega
 ·rw [ho.block _ hlt (fun hd => by
   rcases h.from_ _ hd with h1 | h1
   ·have := hD _ h1; omega
   ·exact h1.2 rfl)]
  exact h.fr
set_option maxRecDepth 100000 in
set_option maxHeartbeats 8000000 in
theorem pCycle_any (D : Nat -> Prop) (g : Nat) (B : PBx) (s : ByteArray) (w : World) (h : PBoxIn w D g B) (hc : B.L.frameB s = true -> CycOK B (B.L.pfrOf s)) :
  Calls Tryz.prog 16 #[.pointer (some ⟨g, 0, none⟩), .string s] w fun e w' => e = .returned (.string (B.ans s)) /\ PBoxIn w' (grow D w w') g (B.cyc s) /\ Only D w w' := by
 obtain ⟨R, vs, vr, vt, vl, vw, va, vq, qs, hM, h1, h2, h3⟩ := id h
 have HRD := zh (fRead_any _ B.L s w (hM.plan.2 w (fun _ _ => rfl)))
 obtain ⟨⟨q0, q1, q2, q3, q4, q5, q6, q7, q8, q9⟩, -, qg⟩ := box10 hM.box
 obtain ⟨_, _, _, he, hS, hRo, hT⟩ := hM.plan.2 w (fun _ _ => rfl)
 simp only [Value.agg.injEq, Array.mk.injEq, List.cons.injEq, and_true, true_and] at he
 obtain ⟨rfl, rfl, rfl⟩ := he
 obtain ⟨b1, e1, rfl, -⟩ := SlAt.open hS
 obtain ⟨b2, e2, rfl, -⟩ := SlAt.open hRo
 obtain ⟨b3, e3, rfl, -⟩ := SlAt.open hT
 have HB := zh h
 have HC := zh hc
 have HAN := zh (And.intro (PBx.ans.eq_1 B s) (PBx.cyc.eq_1 B s))
 clear hS hRo hT hM h1 h2 h3 h hc q6 q7 q8 q9
 obtain ⟨f, hf⟩ : ∃ f, B.L.pfrOf s = f := ⟨_, rfl⟩
 rw [hf] at HAN HC HRD
 clear hf
 obtain ⟨bf, hbf⟩ : ∃ b, B.L.frameB s = b := ⟨_, rfl⟩
 rw [hbf] at HAN HC HRD
 clear hbf
 go_enter Tryz.func16, Tryz.ntmps16
 go_wp2_with fail
 refine (uh HRD).mono ?_
 rintro e w1 ⟨v1, rfl, ⟨a1, a2, a3, n1, n2, n3, c1, c2, c3, rfl⟩, hF1, hb1⟩
 have HB1 := zh hb1
 clear q0 q1 q2 q3 q4 q5 HRD
 cases bf with
 | false =>
  have HA2 := zh (show B.ans s = ⟨#[33]⟩ /\ B.cyc s = B from ⟨(uh HAN).1, (uh HAN).2⟩)
  clear hF1 hb1
  go_wp2
  go_ret
  have hb2 := (uh HB1).trans ((z02 w1 (.cells #[.slice a1 n1 c1, .slice a2 n2 c2, .slice a3 n3 c3] 77)).mono (uh HB1).size)
  refine ⟨by rw [(uh HA2).1] <;> rfl, ?_, Only.of_below hb2⟩
  rw [(uh HA2).2]
  exact ((uh HB).only (Only.of_below (F := fun _ => False) hb2) (fun _ _ h => h)).mono (fun b hb => Or.inl hb) (grow_lt (uh HB).lt hb2.size)
 | true =>
  have HA2 := zh (show B.ans s = B.ansB f /\ B.cyc s = B.s4 f from ⟨(uh HAN).1, (uh HAN).2⟩)
  have hCO := uh HC rfl
  have HCO := zh hCO
  have hfr := hF1 rfl
  have hD := (uh HB).lt
  have hbf0 : BoxF w1 D (fun k => w.heap.size <= k /\ k < w1.heap.size) g B (.agg #[.slice a1 n1 c1, .slice a2 n2 c2, .slice a3 n3 c3]) f :=
   ⟨(uh HB).only (Only.of_below (F := fun _ => False) hb1) (fun _ _ h => h), hfr, fun b hb hd => by have := hD b hd; have := hb.1; omega⟩
  obtain ⟨W2, hW2⟩ : ∃ W2, W2 = w1.alloc (z0k (.slice a1 n1 c1) (.slice a2 n2 c2) (.slice a3 n3 c3)) := ⟨_, rfl⟩
  have hbf2 := hbf0.below (z02 w1 (z0k (.slice a1 n1 c1) (.slice a2 n2 c2) (.slice a3 n3 c3)))
  have hfb2 := heap_alloc_new w1 (z0k (.slice a1 n1 c1) (.slice a2 n2 c2) (.slice a3 n3 c3))
  have hbw2 : Below w.heap.size w W2 := by rw [hW2]; exact hb1.trans ((z02 w1 _).mono hb1.size)
  rw [<- hW2] at hbf2 hfb2
  have HW2 := zh hbw2
  have HF2 := zh hfb2
  have HBF2 := zh hbf2
  have H1 := zh (countLate_f D _ g B _ f W2 hbf2 hCO.g0.rl (fun x hx => (hCO.g0.ok x hx).freed) hCO.T hCO.late)
  rw [hW2] at H1
  have hz2 : w1.heap.size < W2.heap.size := by rw [hW2]; simp
  clear hF1 hfr hbf0 hbf2 hfb2 hbw2 hb1 hCO
  go_wp2_with fail
  refine (uh H1).mono ?_
  rw [<- hW2]
  rintro e w3 ⟨rfl, hB3, hO3⟩
  have hDD := (uh HB).lt
  have hlw : w.heap.size <= w1.heap.size := (uh HB1).size
  have HS2 := zh (show Stg w W2 w1.heap.size (z0k (.slice a1 n1 c1) (.slice a2 n2 c2) (.slice a3 n3 c3)) D D (fun k => w.heap.size <= k /\ k < w1.heap.size) g B (.agg #[.slice a1 n1 c1, .slice a2 n2 c2, .slice a3 n3 c3]) f from ⟨uh HBF2, fun b hb => Or.inl hb, Only.of_below (uh HW2), uh HF2⟩)
  have hS3 := (uh HS2).op hDD hlw hB3 hO3 (fun b hb => by
   rcases hb with hb | hb
   ·exact Or.inl hb
   ·exact Or.inr hb.1)
  have HS3 := zh hS3
  have HDD := zh hDD
  have hCO := uh HCO
  obtain ⟨l1, l2, l3, l4, l5⟩ := lateN_pres B f B.sws.length
  have hr1 : (B.s1 f).rts = B.rts := l2
  have H2 := zh (stepRoutes_f _ _ g (B.s1 f) _ f w3 hS3.boxf (by rw [hr1]; exact hCO.g0.rl) (by rw [hr1]; exact hCO.g0.ok) hCO.gave)
  obtain ⟨⟨y0, y1, y2⟩, -, qf⟩ := tri0 hS3.fr
  clear hB3 hO3 hS3 hDD H1 HBF2 HW2 HF2 hCO l1 l2 l3 l4 l5 hr1 hW2
  go_wp2_with fail
  refine (uh H2).mono ?_
  rintro e w4 ⟨rfl, hB4, hO4⟩
  have hS4 := (uh HS3).op (uh HDD) hlw hB4 hO4 (fun b hb => by
   rcases hb with hb | hb
   ·exact Or.inl hb
   ·exact Or.inr hb.1)
  have HS4 := zh hS4
  have H3 := zh (obey_any _ _ g (B.s2 f) _ f w4 hS4.boxf (uh HCO).w2 (uh HCO).cm)
  clear y0 y1 y2 qf
  obtain ⟨⟨y0, y1, y2⟩, -, qf⟩ := tri0 hS4.fr
  clear hB4 hO4 hS4 H2 HS3 HS2
  go_wp2_with fail
  refine (uh H3).mono ?_
  rintro e w5 ⟨v5, rfl, D5, o5, hBs, hown5, hnd5⟩
  have hS5 := (uh HS4).op (uh HDD) hlw hBs.boxf hBs.only (fun b hb => (hBs.from_ b hb).imp id (fun h => Nat.le_of_lt h))
  have HS5 := zh hS5
  have H4 := zh (grantFromQueue_any _ _ g (B.s3 f) _ f w5 hS5.boxf (uh HCO).g3 (uh HCO).w3)
  have HO5 := zh (And.intro hown5 hnd5)
  obtain ⟨av, cv, hv5⟩ := z03 hown5
  subst hv5
  clear y0 y1 y2 qf
  obtain ⟨⟨y0, y1, y2⟩, -, qf⟩ := tri0 hS5.fr
  clear hBs hown5 hnd5 hS5 H3 HS4
  go_wp2_with fail
  refine (uh H4).mono ?_
  rintro e w6 ⟨v6, rfl, D6, o6, hBs, hown6, hnd6⟩
  have hS6 := (uh HS5).op (uh HDD) hlw hBs.boxf hBs.only (fun b hb => (hBs.from_ b hb).imp id (fun h => Nat.le_of_lt h))
  have HS6 := zh hS6
  have hown5' := own_only (uh HO5).1 hBs.only (uh HO5).2
  have hCO := uh HCO
  have H5 := zh (answer_any g (B.s4 f) _ _ v6 f _ _ w6 hS6.boxf.box.at hS6.boxf.frame.at (Byts.ofOwn hown5' rfl) (Ints.ofOwn hown6 rfl) hCO.g4.1 hCO.g4.2.1 hCO.g4.2.2 hCO.sv.1 hCO.sv.2 hCO.da)
  obtain ⟨a6, c6, hv6⟩ := z03 hown6
  subst hv6
  clear y0 y1 y2 qf
  obtain ⟨⟨y0, y1, y2⟩, -, qf⟩ := tri0 hS6.fr
  clear hBs hown6 hnd6 hS6 H4 HS5 hown5' hCO HO5
  go_wp2_with fail
  refine (uh H5).mono ?_
  rintro e w7 ⟨rfl, hb7⟩
  have hS6 := uh HS6
  have HFIN := zh (show PBoxIn w7 (grow D w w7) g (B.s4 f) /\ Only D w w7 from ⟨(hS6.boxf.box.only (Only.of_below (F := fun _ => False) hb7) (fun _ _ h => h)).mono (fun b hb => by
    have hlt := hS6.boxf.box.lt b hb
    rcases hS6.from_ b hb with h5 | h5
    ·exact Or.inl h5
    ·exact Or.inr ⟨h5.1, Nat.lt_of_lt_of_le hlt hb7.size⟩) (grow_lt (uh HDD) (Nat.le_trans hS6.only.size hb7.size)), hS6.only.trans (Only.of_below hb7)⟩)
  clear hb7 hS6 H5 y0 y1 y2
  go_wp2
  go_ret
  exact ⟨by rw [(uh HA2).1] <;> rfl, by rw [(uh HA2).2]; exact (uh HFIN).1, (uh HFIN).2⟩
theorem flankL_sgn (s : ByteArray) : ∀ (f p : Nat) (x : Nat × Nat), x ∈ (z0y s f p).1 -> x.2 ≠ 0
 | 0, p, x, h => by simp [z0y] at h
 | f + 1, p, x, h => by
  unfold z0y at h
  split at h
  ·split at h
   ·simp at h
   ·rename_i h1 h2
    rcases List.mem_cons.1 h with rfl | h
    ·exact h2
    ·exact flankL_sgn s f (p + 2) x h
  ·simp at h
theorem routeL_sgn (s : ByteArray) (p : Nat) (x : Nat × Nat) (h : x ∈ (z1c s p).2.2.flank) : x.2 ≠ 0 := by
 unfold z1c at h
 split at h
 ·simp [Rt0] at h
 split at h
 ·simp [Rt0] at h
 split at h
 ·simp [Rt0] at h
 split at h
 ·simp at h
 ·exact flankL_sgn s _ _ x h
theorem rtsL_sgn (s : ByteArray) : ∀ (f p : Nat) (r : Rt), r ∈ (rtsL s f p).2.2 -> ∀ x, x ∈ r.flank -> x.2 ≠ 0
 | 0, p, r, h => by simp [rtsL] at h
 | f + 1, p, r, h => by
  unfold rtsL at h
  split at h
  ·simp at h
  ·split at h
   ·rcases List.mem_cons.1 h with rfl | h
    ·exact fun x => routeL_sgn s p x
    ·exact rtsL_sgn s f _ r h
   ·rcases List.mem_cons.1 h with rfl | h
    ·exact fun x => routeL_sgn s p x
    ·simp at h
theorem layL_sgn (s : ByteArray) (r : Rt) (h : r ∈ (layL s).2.2.rts) : ∀ x, x ∈ r.flank -> x.2 ≠ 0 := by
 unfold layL at h
 split at h
 ·simp at h
 split at h
 ·simp at h
 split at h
 ·simp at h
 split at h
 ·simp at h
 split at h
 ·simp at h
 split at h
 ·simp at h
 ·exact rtsL_sgn s _ _ r h
theorem layL_T (s : ByteArray) (h : (layL s).1 = true) : (1 <= (layL s).2.2.T /\ (layL s).2.2.T <= 9) /\ (1 <= (layL s).2.2.D /\ (layL s).2.2.D <= 9) /\ (1 <= (layL s).2.2.Q /\ (layL s).2.2.Q <= 9) := by
 have ht := (times_ok s).2
 unfold layL at h ⊢
 by_cases h1 : z2j s 0 = 3
 ·have h2 : ¬ z2j s 0 ≠ 3 := by simpa using h1
  rw [if_neg h2] at h ⊢
  obtain ⟨-, -, h3⟩ := ht h1
  have a0 := h3 0 (by omega)
  have a1 := h3 1 (by omega)
  have a2 := h3 2 (by omega)
  repeat' split
  all_goals first
   | (exfalso; simp_all; done)
   | (show (1 <= pk s 0 - 48 /\ pk s 0 - 48 <= 9) /\ (1 <= pk s 1 - 48 /\ pk s 1 - 48 <= 9) /\ (1 <= pk s 2 - 48 /\ pk s 2 - 48 <= 9); omega)
 ·rw [if_pos h1] at h
  simp at h
structure RtOK (L : Lay) (r : Rt) : Prop where
 ne : r.path ≠ []
 pl : r.path.length <= 6
 fl : r.flank.length <= 4
 foot : r.foot < L.sw.length
 pn : (secs r.path).Nodup
 ps : ∀ x, x ∈ r.path -> x.1 < L.sw.length /\ (L.sw.getD x.1 false = (x.2 != 0))
 fs : ∀ x, x ∈ r.flank -> x.1 < L.sw.length /\ L.sw.getD x.1 false = true /\ has r.path x.1 = false /\ x.2 ≠ 0
 fn : (secs r.flank).Nodup
structure LayOK (L : Lay) : Prop where
 good : L.Good
 T : 1 <= L.T /\ L.T <= 9
 D : 1 <= L.D /\ L.D <= 9
 Q : 1 <= L.Q /\ L.Q <= 9
 sw : L.sw.length <= 16
 rl : L.rts.length <= 12
 rts : ∀ r, r ∈ L.rts -> RtOK L r
theorem nodup_of (l : List Nat) (h : ∀ i, i < l.length -> (l.filter (· == l.getD i 0)).length <= 1) : l.Nodup := by
 rw [List.nodup_iff_count]
 intro a
 by_cases ha : a ∈ l
 ·obtain ⟨i, hi, rfl⟩ := List.mem_iff_getElem.1 ha
  have := h i hi
  rw [List.getD_eq_getElem?_getD, List.getElem?_eq_getElem hi] at this
  rw [List.count_eq_length_filter]
  exact this
 ·rw [List.count_eq_zero_of_not_mem ha]; omega
theorem mem_getD {l : List (Nat × Nat)} {x : Nat × Nat} (h : x ∈ l) : ∃ i, i < l.length /\ l.getD i (0, 0) = x := by
 obtain ⟨i, hi, rfl⟩ := List.mem_iff_getElem.1 h
 exact ⟨i, hi, by rw [List.getD_eq_getElem?_getD, List.getElem?_eq_getElem hi]; rfl⟩
theorem rtOK_of (L : Lay) (r : Rt) (hne : r.path ≠ []) (hp : r.path.length <= 6) (hf : r.flank.length <= 4) (hs : ∀ x, x ∈ r.flank -> x.2 ≠ 0) (h : L.crooked r = false) : RtOK L r := by
 unfold Lay.crooked at h
 simp only [Bool.or_eq_false_iff, decide_eq_false_iff_not, List.any_eq_false, List.mem_range] at h
 obtain ⟨⟨h1, h2⟩, h3⟩ := h
 refine ⟨hne, hp, hf, by omega, ?_, ?_, ?_, ?_⟩
 ·refine nodup_of _ (fun i hi => ?_)
  have := h2 i (by rw [z1m] at hi; exact hi)
  unfold Lay.badPath at this
  simp only [Bool.or_eq_true, not_or, decide_eq_true_eq] at this
  rw [secs_getD]
  have := this.1.1.2
  omega
 ·intro x hx
  obtain ⟨i, hi, rfl⟩ := mem_getD hx
  have := h2 i hi
  unfold Lay.badPath at this
  simp only [Bool.or_eq_true, not_or, decide_eq_true_eq] at this
  refine ⟨by have := this.1.1.1; omega, ?_⟩
  have := this.2
  simpa using this
 ·intro x hx
  obtain ⟨i, hi, rfl⟩ := mem_getD hx
  have := h3 i hi
  unfold Lay.badFlank at this
  simp only [Bool.or_eq_true, not_or, decide_eq_true_eq] at this
  refine ⟨by have := this.1.1.1.1; omega, by have := this.2; simpa using this, by have := this.1.1.2; simpa using this, hs _ hx⟩
 ·refine nodup_of _ (fun i hi => ?_)
  have := h3 i (by rw [z1m] at hi; exact hi)
  unfold Lay.badFlank at this
  simp only [Bool.or_eq_true, not_or, decide_eq_true_eq] at this
  rw [secs_getD]
  have := this.1.1.1.2
  omega
theorem layOK_of (s : ByteArray) (h : (errOf s.data.toList).1 = 0) : LayOK (layOf s.data.toList) /\ (layL s).2.2 = layOf s.data.toList := by
 obtain ⟨e0, hbig⟩ := lay_same s h
 have hlen : s.data.toList.length = s.size := by simp
 have hs : s.size <= 256 := by
  unfold errOf at h
  by_cases hh : 256 < s.data.toList.length
  ·rw [if_pos hh] at h; simp at h
  ·omega
 rcases form_eq s hs with ⟨f1, f2, f3, f4⟩ | ⟨f1, f2, f3⟩
 case inr =>
  exfalso
  unfold errOf at h
  rw [if_neg (by omega), if_pos f2] at h
  simp at h
 have hl1 : (layL s).1 = true := by
  unfold z1t at f1
  rw [if_neg (by omega)] at f1
  by_cases hh : ((layL s).1 && decide ((layL s).2.1 = s.size)) = false
  ·rw [if_pos hh] at f1; simp at f1
  ·simp at hh; exact hh.1
 have hT := layL_T s hl1
 have hsg := layL_sgn s
 rw [e0] at hT hsg f4
 refine ⟨?_, e0⟩
 obtain ⟨L, hL⟩ : ∃ L, L = layOf s.data.toList := ⟨_, rfl⟩
 unfold errOf at h
 rw [if_neg (by omega), if_neg (by simpa using f2), if_neg (by simp [hbig])] at h
 rw [<- hL] at hT hsg f4 hbig h ⊢
 obtain ⟨b1, b2, b3⟩ := z40 hbig
 have hbig' := hbig
 unfold Lay.big at hbig'
 simp only [Bool.or_eq_false_iff, decide_eq_false_iff_not, List.any_eq_false, Bool.or_eq_true, not_or, decide_eq_true_eq] at hbig'
 obtain ⟨⟨-, hb4⟩, hb5⟩ := hbig'
 have hcr : ∀ i, i < L.rts.length -> L.crooked (L.rt i) = false := by
  intro i hi
  cases hc : L.crooked (L.rt i) with
  | false => rfl
  | true =>
   exfalso
   cases hf : (List.range L.rts.length).find? (fun i => L.crooked (L.rt i)) with
   | none =>
    have := List.find?_eq_none.1 hf i (List.mem_range.2 hi)
    simp [hc] at this
   | some j => rw [hf] at h; simp at h
 have hst : ∀ i, i < L.tns.length -> L.stray i = false := by
  intro i hi
  cases hc : L.stray i with
  | false => rfl
  | true =>
   exfalso
   cases hf : (List.range L.rts.length).find? (fun i => L.crooked (L.rt i)) with
   | some j => rw [hf] at h; simp at h
   | none =>
    rw [hf] at h
    cases hf2 : (List.range L.tns.length).find? (fun i => L.stray i) with
    | none =>
     have := List.find?_eq_none.1 hf2 i (List.mem_range.2 hi)
     simp [hc] at this
    | some j => rw [hf2] at h; simp at h
 refine ⟨⟨f4, ?_, b3, fun t ht => by have := hb5 t ht; omega, fun r hr => by have := (hb4 r hr).1; omega⟩, hT.1, hT.2.1, hT.2.2, b1, b2, ?_⟩
 ·intro t ht r hr
  obtain ⟨i, hi, rfl⟩ := List.mem_iff_getElem.1 ht
  have := hst i hi
  unfold Lay.stray at this
  simp only [Bool.or_eq_false_iff, Bool.not_eq_false'] at this
  have e : L.tn i = L.tns[i] := by unfold Lay.tn; rw [List.getD_eq_getElem?_getD, List.getElem?_eq_getElem hi]; rfl
  rw [e] at this
  exact joins_lt L _ _ this.2 r hr
 ·intro r hr
  obtain ⟨i, hi, rfl⟩ := List.mem_iff_getElem.1 hr
  have e : L.rt i = L.rts[i] := by unfold Lay.rt; rw [List.getD_eq_getElem?_getD, List.getElem?_eq_getElem hi]; rfl
  have := hcr i hi
  rw [e] at this
  exact rtOK_of L _ (f4 _ hr) (by have := (hb4 _ hr).1; omega) (by have := (hb4 _ hr).2; omega) (hsg _ hr) this
theorem mem_signOf : ∀ {l : List (Nat × Nat)}, (secs l).Nodup -> ∀ {x : Nat × Nat}, x ∈ l -> z30 l x.1 = some x.2
 | [], _, x, h => by simp at h
 | y :: l, hn, x, h => by
  have hn' : (y.1 :: secs l).Nodup := hn
  rw [List.nodup_cons] at hn'
  unfold z30
  rcases List.mem_cons.1 h with rfl | h
  ·simp
  ·have : y.1 ≠ x.1 := by
    intro e
    exact hn'.1 (e ▸ List.mem_map_of_mem h)
   have ih := mem_signOf hn'.2 h
   unfold z30 at ih
   rw [List.find?_cons_of_neg (by simpa using this)]
   exact ih
theorem signOf_mem {l : List (Nat × Nat)} {s c : Nat} (h : z30 l s = some c) : (s, c) ∈ l := by
 unfold z30 at h
 obtain ⟨x, hx, rfl⟩ := Option.map_eq_some_iff.1 h
 have h1 := List.mem_of_find?_eq_some hx
 have h2 := List.find?_some hx
 have h2' : x.1 = s := by simpa using h2
 subst h2'
 exact h1
theorem signOf_no {l : List (Nat × Nat)} {s : Nat} (h : has l s = false) : z30 l s = none := by
 unfold z30
 have : l.find? (fun x => x.1 == s) = none := by
  rw [List.find?_eq_none]
  intro x hx hh
  have h2 : x.1 = s := by simpa using hh
  subst h2
  have : has l x.1 = true := by
   unfold has
   exact List.contains_iff_mem.2 (List.mem_map_of_mem hx)
  rw [this] at h; simp at h
 rw [this]; rfl
theorem has_iff (l : List (Nat × Nat)) (s : Nat) : has l s = true ↔ ∃ x, x ∈ l /\ x.1 = s := by
 unfold has secs
 rw [List.contains_iff_mem]
 simp only [List.mem_map]
theorem sws_iff {L : Lay} {r : Nat} (h : RtOK L (L.rt r)) (x : Nat × Nat) : x ∈ swsOf (L.rt r) ↔ (x.2 ≠ 0 /\ L.wantsF r x.1 = x.2) := by
 unfold swsOf
 rw [List.mem_append, List.mem_filter]
 constructor
 ·rintro (⟨h1, h2⟩ | h1)
  ·refine ⟨by simpa using h2, ?_⟩
   unfold Lay.wantsF
   rw [mem_signOf h.pn h1]
  ·obtain ⟨-, -, a, b⟩ := h.fs x h1
   refine ⟨b, ?_⟩
   unfold Lay.wantsF
   rw [signOf_no a, mem_signOf h.fn h1]
   rfl
 ·rintro ⟨h1, h2⟩
  unfold Lay.wantsF at h2
  cases hp : z30 (L.rt r).path x.1 with
  | some c =>
   rw [hp] at h2
   have h2' : c = x.2 := h2
   subst h2'
   exact Or.inl ⟨signOf_mem hp, by simpa using h1⟩
  | none =>
   rw [hp] at h2
   cases hf : z30 (L.rt r).flank x.1 with
   | some c =>
    rw [hf] at h2
    have h2' : c = x.2 := h2
    subst h2'
    exact Or.inr (signOf_mem hf)
   | none =>
    rw [hf] at h2
    exact absurd h2.symm h1
theorem wants_sw {L : Lay} {r s : Nat} (h : RtOK L (L.rt r)) (hw : L.wantsF r s ≠ 0) : s < L.sw.length /\ L.sw.getD s false = true := by
 have hm := (sws_iff h (s, L.wantsF r s)).2 ⟨hw, rfl⟩
 unfold swsOf at hm
 rw [List.mem_append, List.mem_filter] at hm
 rcases hm with ⟨h1, -⟩ | h1
 ·obtain ⟨a, b⟩ := h.ps _ h1
  exact ⟨a, by rw [b]; simpa using hw⟩
 ·obtain ⟨a, b, -⟩ := h.fs _ h1
  exact ⟨a, b⟩
theorem has_sws {L : Lay} {r : Nat} (h : RtOK L (L.rt r)) (s : Nat) : has (swsOf (L.rt r)) s = (L.wantsF r s != 0) := by
 rw [Bool.eq_iff_iff, has_iff]
 constructor
 ·rintro ⟨x, hx, rfl⟩
  obtain ⟨a, b⟩ := (sws_iff h x).1 hx
  rw [b]; simpa using a
 ·intro hw
  exact ⟨(s, L.wantsF r s), (sws_iff h _).2 ⟨by simpa using hw, rfl⟩, rfl⟩
theorem all_sws {L : Lay} {r : Nat} (h : RtOK L (L.rt r)) (g : Nat × Nat -> Bool) : (swsOf (L.rt r)).all g = (List.range L.sw.length).all (fun s => L.wantsF r s == 0 || g (s, L.wantsF r s)) := by
 rw [Bool.eq_iff_iff, List.all_eq_true, List.all_eq_true]
 constructor
 ·intro ha s _
  by_cases hw : L.wantsF r s = 0
  ·simp [hw]
  ·rw [ha _ ((sws_iff h (s, L.wantsF r s)).2 ⟨hw, rfl⟩)]; simp
 ·intro ha x hx
  obtain ⟨a, b⟩ := (sws_iff h x).1 hx
  have hs := (wants_sw h (s := x.1) (by rw [b]; exact a)).1
  have := ha x.1 (List.mem_range.2 hs)
  rw [b] at this
  simpa [a] using this
theorem any_sws {L : Lay} {r : Nat} (h : RtOK L (L.rt r)) (g : Nat × Nat -> Bool) : (swsOf (L.rt r)).any g = (List.range L.sw.length).any (fun s => L.wantsF r s != 0 && g (s, L.wantsF r s)) := by
 have := all_sws h (fun x => !g x)
 rw [List.any_eq_not_all_not, List.any_eq_not_all_not, this]
 congr 1
 refine List.all_congr rfl ?_
 intro s
 simp [bne]
theorem all_path {L : Lay} {r : Nat} (h : RtOK L (L.rt r)) (g : Nat -> Bool) : (L.rt r).path.all (fun x => g x.1) = (List.range L.sw.length).all (fun s => !has (L.rt r).path s || g s) := by
 rw [Bool.eq_iff_iff, List.all_eq_true, List.all_eq_true]
 constructor
 ·intro ha s _
  cases hh : has (L.rt r).path s with
  | false => rfl
  | true =>
   obtain ⟨x, hx, rfl⟩ := (has_iff _ _).1 hh
   rw [ha x hx]; rfl
 ·intro ha x hx
  have := ha x.1 (List.mem_range.2 (h.ps x hx).1)
  rw [(has_iff _ _).2 ⟨x, hx, rfl⟩] at this
  simpa using this
theorem all_andq (l : List Nat) (p q : Nat -> Bool) : (l.all p && l.all q) = l.all (fun s => p s && q s) := by
 rw [Bool.eq_iff_iff]
 simp only [Bool.and_eq_true, List.all_eq_true]
 exact ⟨fun h s hs => ⟨h.1 s hs, h.2 s hs⟩, fun h => ⟨fun s hs => (h s hs).1, fun s hs => (h s hs).2⟩⟩
theorem all_cg {p q : Nat -> Bool} {n : Nat} (h : ∀ s, s < n -> p s = q s) : (List.range n).all p = (List.range n).all q := by
 rw [Bool.eq_iff_iff]
 simp only [List.all_eq_true, List.mem_range]
 exact ⟨fun a s hs => (h s hs) ▸ a s hs, fun a s hs => (h s hs) ▸ a s hs⟩
theorem any_cg {p q : Nat -> Bool} {n : Nat} (h : ∀ s, s < n -> p s = q s) : (List.range n).any p = (List.range n).any q := by
 rw [Bool.eq_iff_iff]
 simp only [List.any_eq_true, List.mem_range]
 exact ⟨fun ⟨s, hs, a⟩ => ⟨s, hs, (h s hs) ▸ a⟩, fun ⟨s, hs, a⟩ => ⟨s, hs, (h s hs) ▸ a⟩⟩
structure LR (L : Lay) (r : Nat) (y : PRt) (x : RLn) : Prop where
 rt : y.rt = L.rt r
 ph : y.ph = x.ph
 tr : x.ph ≠ 46 -> y.train = x.train
 be : x.ph ≠ 46 -> y.been = x.been
 fr : x.ph ≠ 46 -> y.freed = x.gone
 ml : x.ph ≠ 46 -> y.marked.length = (L.rt r).path.length
 mks : x.ph = 116 -> y.marked = x.marks
 ct : x.ph = 100 -> y.count = x.count
 cb : y.count <= 1000
 fb : y.freed <= 1000
 mb : y.marked.length <= 1000
structure LI (L : Lay) (r : Nat) (x : RLn) : Prop where
 g0 : x.ph ≠ 116 -> x.gone = 0
 ps : x.ph = 116 -> x.marks.length = (L.rt r).path.length /\ x.gone < (L.rt r).path.length
 ct : x.count <= 1000
structure Sim (B : PBx) (C : RBx) : Prop where
 L : B.L = C.L
 rl : B.rts.length = C.L.rts.length
 lr : ∀ r, r < C.L.rts.length -> LR C.L r (B.route r) (C.line r)
 sl : B.sws.length = C.L.sw.length
 sw : ∀ s, s < C.L.sw.length -> C.L.sw.getD s false = true -> (B.sw s).wanted = C.wanted.getD s 0 /\ (B.sw s).failed = C.failed.getD s false /\ (B.sw s).late = C.late.getD s 0
 lt : ∀ s, (B.sw s).late <= 1000
 sta : B.sta = C.sta
 waits : B.waits = C.waits
structure Inv (C : RBx) : Prop where
 lay : LayOK C.L
 ll : C.lines.length = C.L.rts.length
 wl : C.wanted.length = C.L.sw.length
 fl : C.failed.length = C.L.sw.length
 dl : C.late.length = C.L.sw.length
 st : C.sta.length = C.L.tns.length
 sj : ∀ t, C.sta.getD t 0 <= (C.L.tn t).jny.length
 late : ∀ s, C.late.getD s 0 < C.L.T
 li : ∀ r, r < C.L.rts.length -> LI C.L r (C.line r)
 tr : ∀ r, r < C.L.rts.length -> (C.line r).ph ≠ 46 -> (C.line r).train < C.L.tns.length /\ 1 <= C.sta.getD (C.line r).train 0
 one : ∀ r r', r < C.L.rts.length -> r' < C.L.rts.length -> (C.line r).ph ≠ 46 -> (C.line r').ph ≠ 46 -> (C.line r).train = (C.line r').train -> r = r'
 wq : C.waits.length <= C.L.Q
 wn : C.waits.Nodup
 wt : ∀ t, t ∈ C.waits -> t < C.L.tns.length /\ C.sta.getD t 0 < (C.L.tn t).jny.length
structure FrS (pf : PFr) (f : Fr) (L : Lay) : Prop where
 occ : pf.occ = f.occ
 rep : pf.rep = f.rep
 ol : f.occ.length = L.sw.length
 pl : f.rep.length = L.sw.length
theorem Inv.rt {C : RBx} (h : Inv C) {r : Nat} (hr : r < C.L.rts.length) : RtOK C.L (C.L.rt r) := by
 refine h.lay.rts _ ?_
 unfold Lay.rt
 rw [List.getD_eq_getElem?_getD, List.getElem?_eq_getElem hr]
 exact List.getElem_mem hr
theorem Sim.lockB {B : PBx} {C : RBx} (h : Sim B C) {r : Nat} (hr : r < C.L.rts.length) (s : Nat) : B.lockB s r = C.lockB s r := by
 have hl := h.lr r hr
 show (B.route r).lockB s = C.lockB s r
 unfold PRt.lockB RBx.lockB
 rw [hl.rt, hl.ph]
 by_cases hp : (C.line r).ph = 46
 ·rw [hp]; rfl
 ·rw [hl.fr hp]
theorem Sim.lockedBy {B : PBx} {C : RBx} (h : Sim B C) (hi : Inv C) (s : Nat) : B.lockedBy s = C.lockedBy s := by
 unfold PBx.lockedBy RBx.lockedBy
 rw [h.rl, hi.ll]
 exact z3z _ (fun r hr => h.lockB (List.mem_range.1 hr) s)
theorem Sim.heldB {B : PBx} {C : RBx} (h : Sim B C) (hi : Inv C) (s : Nat) : B.heldB s = C.heldB s := by
 unfold PBx.heldB RBx.heldB
 rw [h.lockedBy hi, h.rl, hi.ll, Bool.or_comm]
 congr 1
 refine any_cg (fun r hr => ?_)
 have hl := h.lr r hr
 unfold PBx.flankB RBx.flankB PRt.flankB
 rw [hl.rt, hl.ph]
theorem Sim.setFor {B : PBx} {C : RBx} (h : Sim B C) (hi : Inv C) (t : Nat) : B.setFor t = C.isSet t := by
 unfold PBx.setFor RBx.isSet
 rw [h.rl, hi.ll]
 refine any_cg (fun r hr => ?_)
 have hl := h.lr r hr
 unfold RBx.setB PRt.setB
 rw [hl.ph]
 by_cases hp : (C.line r).ph = 46
 ·rw [hp]; rfl
 ·rw [hl.tr hp]
theorem Sim.broken {B : PBx} {C : RBx} (h : Sim B C) (hi : Inv C) {r : Nat} (hr : r < C.L.rts.length) : B.anyF (swsOf (C.L.rt r)) = C.broken r := by
 unfold PBx.anyF RBx.broken
 rw [any_sws (hi.rt hr)]
 refine any_cg (fun s hs => ?_)
 unfold RBx.brokenB
 by_cases hw : C.L.wantsF r s = 0
 ·rw [hw]; rfl
 ·rw [(h.sw s hs (wants_sw (hi.rt hr) hw).2).2.1]
theorem right_eq {C : RBx} {pf : PFr} {f : Fr} (hf : FrS pf f C.L) (hi : Inv C) {r : Nat} (hr : r < C.L.rts.length) : (swsOf (C.L.rt r)).all (fun i => pf.repAs i.1 i.2) = C.right f r := by
 unfold RBx.right
 rw [all_sws (hi.rt hr)]
 refine all_cg (fun s hs => ?_)
 unfold RBx.rightB PFr.repAs
 rw [hf.rep]
 have : decide (s < f.rep.length) = true := by rw [hf.pl]; simpa using hs
 simp only [this, Bool.true_and]
theorem busy_eq {C : RBx} {pf : PFr} {f : Fr} (hf : FrS pf f C.L) (r : Nat) : pf.freeB (C.L.rt r).path = !C.busy f r := by
 unfold PFr.freeB RBx.busy busyF RBx.pth secs
 rw [hf.occ, List.any_map, List.any_eq_not_all_not, Bool.not_not]
 rfl
theorem ready_eq {C : RBx} {pf : PFr} {f : Fr} {y : PRt} (hf : FrS pf f C.L) (hi : Inv C) {r : Nat} (hr : r < C.L.rts.length) (hy : y.rt = C.L.rt r) : y.readyB pf = (C.right f r && !C.busy f r) := by
 unfold PRt.readyB
 rw [hy, right_eq hf hi hr, busy_eq hf]
theorem Sim.free {B : PBx} {C : RBx} {pf : PFr} {f : Fr} (h : Sim B C) (hi : Inv C) (hf : FrS pf f C.L) {r : Nat} (hr : r < C.L.rts.length) :
  ((B.lockOK (C.L.rt r).path && pf.freeB (C.L.rt r).path) && B.wantOK pf (swsOf (C.L.rt r))) = C.free f r := by
 unfold PBx.wantOK
 rw [h.broken hi hr]
 have e1 : B.lockOK (C.L.rt r).path = (List.range C.L.sw.length).all (fun s => !has (C.L.rt r).path s || !(B.lockedBy s).isSome) := all_path (hi.rt hr) (fun s => !(B.lockedBy s).isSome)
 have e2 : pf.freeB (C.L.rt r).path = (List.range C.L.sw.length).all (fun s => !has (C.L.rt r).path s || !pf.occ.getD s false) := all_path (hi.rt hr) (fun s => !pf.occ.getD s false)
 have e3 : (!C.broken r) = (List.range C.L.sw.length).all (fun s => !C.brokenB r s) := by
  unfold RBx.broken
  rw [List.any_eq_not_all_not, Bool.not_not]
 rw [e1, e2, e3, all_sws (hi.rt hr), all_andq, all_andq, all_andq]
 unfold RBx.free
 refine all_cg (fun s hs => ?_)
 unfold RBx.freeB RBx.brokenB PBx.wantOK1 PBx.wantedAs RBx.takenB
 simp only
 rw [h.lockedBy hi, h.heldB hi, hf.occ]
 have hsl : decide (s < B.sws.length) = true := by rw [h.sl]; simpa using hs
 rw [hsl]
 have hh : C.heldB s = ((C.lockedBy s).isSome || (List.range C.lines.length).any (C.flankB s)) := rfl
 rw [hh]
 by_cases hw : C.L.wantsF r s = 0
 ·rw [hw]
  cases has (C.L.rt r).path s <;> cases (C.lockedBy s).isSome <;> cases f.occ.getD s false <;> simp
 ·rw [(h.sw s hs (wants_sw (hi.rt hr) hw).2).1]
  have hw1 : (C.L.wantsF r s == 0) = false := by simpa using hw
  have hw2 : (C.L.wantsF r s != 0) = true := by simpa using hw
  rw [hw1, hw2]
  rw [show (C.wanted.getD s 0 != C.L.wantsF r s) = !(C.wanted.getD s 0 == C.L.wantsF r s) from rfl]
  generalize (C.wanted.getD s 0 == C.L.wantsF r s) = q1
  generalize has (C.L.rt r).path s = q2
  generalize (C.lockedBy s).isSome = q3
  generalize f.occ.getD s false = q4
  generalize C.failed.getD s false = q5
  generalize (List.range C.lines.length).any (C.flankB s) = q6
  revert q1 q2 q3 q4 q5 q6
  decide
theorem any_andc (n : Nat) (p : Nat -> Bool) (c : Bool) : (List.range n).any (fun r => p r && c) = ((List.range n).any p && c) := by
 cases c
 ·simp
 ·simp
theorem Sim.move {B : PBx} {C : RBx} {pf : PFr} {f : Fr} (h : Sim B C) (hi : Inv C) (hf : FrS pf f C.L) {s : Nat} (hs : s < C.L.sw.length) (hw : C.L.sw.getD s false = true) : B.moveC pf s = C.moveF f s := by
 unfold PBx.moveC RBx.moveF
 obtain ⟨e1, e2, -⟩ := h.sw s hs hw
 have ea : B.awaitB s = (List.range C.lines.length).any (fun r => (C.line r).ph == 119 && C.L.wantsF r s != 0) := by
  unfold PBx.awaitB
  rw [h.rl, hi.ll]
  refine any_cg (fun r hr => ?_)
  have hl := h.lr r hr
  unfold PRt.awaitB
  rw [hl.rt, hl.ph, has_sws (hi.rt hr)]
 have eb : (List.range C.lines.length).any (C.moveB f s) = ((List.range C.lines.length).any (fun r => (C.line r).ph == 119 && C.L.wantsF r s != 0) && (!f.occ.getD s false && !C.failed.getD s false && f.rep.getD s 0 != C.wanted.getD s 0)) := by
  rw [<- any_andc]
  refine any_cg (fun r hr => ?_)
  unfold RBx.moveB
  simp only [Bool.and_assoc]
 have er : pf.repAs s (C.wanted.getD s 0) = (f.rep.getD s 0 == C.wanted.getD s 0) := by
  unfold PFr.repAs
  rw [hf.rep]
  have : decide (s < f.rep.length) = true := by rw [hf.pl]; simpa using hs
  rw [this, Bool.true_and]
 rw [e1, e2, ea, eb, hf.occ, er]
 simp only [bne, Bool.and_assoc]
end Go.Proofs.YtkbpocecbcaiiaaGreatDoor
