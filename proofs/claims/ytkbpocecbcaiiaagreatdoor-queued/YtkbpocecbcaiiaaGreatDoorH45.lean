import Derived.Test.YtkbpocecbcaiiaaGreatDoorH44
import Derived.Test.YtkbpocecbcaiiaaGreatDoorH28
import Derived.Test.YtkbpocecbcaiiaaGreatDoorH39
namespace Go.Proofs.YtkbpocecbcaiiaaGreatDoor
open Go.RowKit
def PBx.s1 (B : PBx) (f : PFr) : PBx := B.lateN f B.sws.length
def PBx.s2 (B : PBx) (f : PFr) : PBx := (B.s1 f).stepN f (B.s1 f).rts.length
def PBx.s3 (B : PBx) (f : PFr) : PBx := (B.s2 f).doN f f.cmds.length
def PBx.s4 (B : PBx) (f : PFr) : PBx := (B.s3 f).grants f
def PBx.ansB (B : PBx) (f : PFr) : ByteArray := ansS (natsStr (B.s4 f).lampsT) (natsStr ((B.s4 f).movesT f)) (natsStr ((B.s2 f).doAs f f.cmds.length)) (ordStr ((B.s3 f).servN f (B.s3 f).waits.length))
def PBx.cyc (B : PBx) (s : ByteArray) : PBx := if B.L.frameB s then B.s4 (B.L.pfrOf s) else B
def PBx.ans (B : PBx) (s : ByteArray) : ByteArray := if B.L.frameB s then B.ansB (B.L.pfrOf s) else ⟨#[33]⟩
structure CycOK (B : PBx) (f : PFr) : Prop where
 g0 : PGd B
 T : B.L.T <= 1000
 late : ∀ x, x ∈ B.sws -> x.late <= 1000
 sws : B.sws.length <= 1000
 gave : ∀ k (hk : k < (B.s1 f).rts.length), (B.s1 f).rts[k].gave f = true -> 0 < ((B.s1 f).stepN f k).sta.getD (B.s1 f).rts[k].train 0 /\ ((B.s1 f).stepN f k).sta.getD (B.s1 f).rts[k].train 0 <= 1000
 w2 : (B.s2 f).waits.length <= 500
 cm : f.cmds.length <= 100
 g3 : PGd (B.s3 f)
 w3 : (B.s3 f).waits.length <= 1000
 g4 : (B.s4 f).rts.length <= 1000 /\ (∀ y, y ∈ (B.s4 f).rts -> PRtOK y) /\ (B.s4 f).sws.length <= 1000
 sv : (∀ t, t ∈ (B.s3 f).servN f (B.s3 f).waits.length -> t < 9) /\ ((B.s3 f).servN f (B.s3 f).waits.length).length <= 1000
 da : ((B.s2 f).doAs f f.cmds.length).length <= 1000
structure Stg (w wk : World) (l : Nat) (o : Obj) (D Dk P : Nat -> Prop) (g : Nat) (B : PBx) (vfr : Value) (f : PFr) : Prop where
 boxf : BoxF wk Dk P g B vfr f
 from_ : ∀ b, Dk b -> D b \/ (w.heap.size <= b /\ b ≠ l)
 only : Only D w wk
 fr : wk.heap[l]? = some o
theorem Stg.op {w wk wl : World} {l : Nat} {o : Obj} {D Dk Dl P : Nat -> Prop} {g : Nat} {B B' : PBx} {vfr : Value} {f : PFr} (h : Stg w wk l o D Dk P g B vfr f) (hD : ∀ b, D b -> b < w.heap.size) (hl : w.heap.size <= l) (hb : BoxF wl Dl P g B' vfr f) (ho : Only Dk wk wl) (hd : ∀ b, Dl b -> Dk b \/ wk.heap.size <= b) : Stg w wl l o D Dl P g B' vfr f := by
 have hlt := blk_lt h.fr
 refine ⟨hb, fun b hb => ?_, h.only.far ho (fun i hi hd => ?_), ?_⟩
 . rcases hd b hb with h1 | h1
  . exact h.from_ b h1
  . have := h.only.size; exact Or.inr ⟨by omega, by omega⟩
 . rcases h.from_ i hd with h1 | h1
  . exact h1
  . omega
 . rw [ho.block _ hlt (fun hd => by
   rcases h.from_ _ hd with h1 | h1
   . have := hD _ h1; omega
   . exact h1.2 rfl)]
  exact h.fr
set_option maxRecDepth 100000 in
set_option maxHeartbeats 8000000 in
theorem pCycle_any (D : Nat -> Prop) (g : Nat) (B : PBx) (s : ByteArray) (w : World) (h : PBoxIn w D g B) (hc : B.L.frameB s = true -> CycOK B (B.L.pfrOf s)) :
  Calls Tryz.prog 16 #[.pointer (some ⟨g, 0, none⟩), .string s] w fun e w' => e = .returned (.string (B.ans s)) /\ PBoxIn w' (grow D w w') g (B.cyc s) /\ Only D w w' := by
 obtain ⟨R, vs, vr, vt, vl, vw, va, vq, qs, hM, h1, h2, h3⟩ := id h
 have HRD := hide (fRead_any _ B.L s w (hM.plan.2 w (fun _ _ => rfl)))
 obtain ⟨⟨q0, q1, q2, q3, q4, q5, q6, q7, q8, q9⟩, -, qg⟩ := box10 hM.box
 obtain ⟨_, _, _, he, hS, hRo, hT⟩ := hM.plan.2 w (fun _ _ => rfl)
 simp only [Value.agg.injEq, Array.mk.injEq, List.cons.injEq, and_true, true_and] at he
 obtain ⟨rfl, rfl, rfl⟩ := he
 obtain ⟨b1, e1, rfl, -⟩ := SlAt.open hS
 obtain ⟨b2, e2, rfl, -⟩ := SlAt.open hRo
 obtain ⟨b3, e3, rfl, -⟩ := SlAt.open hT
 have HB := hide h
 have HC := hide hc
 have HAN := hide (And.intro (PBx.ans.eq_1 B s) (PBx.cyc.eq_1 B s))
 clear hS hRo hT hM h1 h2 h3 h hc q6 q7 q8 q9
 obtain ⟨f, hf⟩ : ∃ f, B.L.pfrOf s = f := ⟨_, rfl⟩
 rw [hf] at HAN HC HRD
 clear hf
 obtain ⟨bf, hbf⟩ : ∃ b, B.L.frameB s = b := ⟨_, rfl⟩
 rw [hbf] at HAN HC HRD
 clear hbf
 go_enter Tryz.func16, Tryz.ntmps16
 go_wp2_with fail
 refine (uh HRD).mono ?_
 rintro e w1 ⟨v1, rfl, ⟨a1, a2, a3, n1, n2, n3, c1, c2, c3, rfl⟩, hF1, hb1⟩
 have HB1 := hide hb1
 clear q0 q1 q2 q3 q4 q5 HRD
 cases bf with
 | false =>
  have HA2 := hide (show B.ans s = ⟨#[33]⟩ /\ B.cyc s = B from ⟨(uh HAN).1, (uh HAN).2⟩)
  clear hF1 hb1
  go_wp2
  go_ret
  have hb2 := (uh HB1).trans ((below_alloc w1 (.cells #[.slice a1 n1 c1, .slice a2 n2 c2, .slice a3 n3 c3] 77)).mono (uh HB1).size)
  refine ⟨by rw [(uh HA2).1] <;> rfl, ?_, Only.of_below hb2⟩
  rw [(uh HA2).2]
  exact ((uh HB).only (Only.of_below (F := fun _ => False) hb2) (fun _ _ h => h)).mono (fun b hb => Or.inl hb) (grow_lt (uh HB).lt hb2.size)
 | true =>
  have HA2 := hide (show B.ans s = B.ansB f /\ B.cyc s = B.s4 f from ⟨(uh HAN).1, (uh HAN).2⟩)
  have hCO := uh HC rfl
  have HCO := hide hCO
  have hfr := hF1 rfl
  have hD := (uh HB).lt
  have hbf0 : BoxF w1 D (fun k => w.heap.size <= k /\ k < w1.heap.size) g B (.agg #[.slice a1 n1 c1, .slice a2 n2 c2, .slice a3 n3 c3]) f :=
   ⟨(uh HB).only (Only.of_below (F := fun _ => False) hb1) (fun _ _ h => h), hfr, fun b hb hd => by have := hD b hd; have := hb.1; omega⟩
  obtain ⟨W2, hW2⟩ : ∃ W2, W2 = w1.alloc (frPBox (.slice a1 n1 c1) (.slice a2 n2 c2) (.slice a3 n3 c3)) := ⟨_, rfl⟩
  have hbf2 := hbf0.below (below_alloc w1 (frPBox (.slice a1 n1 c1) (.slice a2 n2 c2) (.slice a3 n3 c3)))
  have hfb2 := heap_alloc_new w1 (frPBox (.slice a1 n1 c1) (.slice a2 n2 c2) (.slice a3 n3 c3))
  have hbw2 : Below w.heap.size w W2 := by rw [hW2]; exact hb1.trans ((below_alloc w1 _).mono hb1.size)
  rw [<- hW2] at hbf2 hfb2
  have HW2 := hide hbw2
  have HF2 := hide hfb2
  have HBF2 := hide hbf2
  have H1 := hide (countLate_f D _ g B _ f W2 hbf2 hCO.g0.rl (fun x hx => (hCO.g0.ok x hx).freed) hCO.T hCO.late)
  rw [hW2] at H1
  have hz2 : w1.heap.size < W2.heap.size := by rw [hW2]; simp
  clear hF1 hfr hbf0 hbf2 hfb2 hbw2 hb1 hCO
  go_wp2_with fail
  refine (uh H1).mono ?_
  rw [<- hW2]
  rintro e w3 ⟨rfl, hB3, hO3⟩
  have hDD := (uh HB).lt
  have hlw : w.heap.size <= w1.heap.size := (uh HB1).size
  have HS2 := hide (show Stg w W2 w1.heap.size (frPBox (.slice a1 n1 c1) (.slice a2 n2 c2) (.slice a3 n3 c3)) D D (fun k => w.heap.size <= k /\ k < w1.heap.size) g B (.agg #[.slice a1 n1 c1, .slice a2 n2 c2, .slice a3 n3 c3]) f from ⟨uh HBF2, fun b hb => Or.inl hb, Only.of_below (uh HW2), uh HF2⟩)
  have hS3 := (uh HS2).op hDD hlw hB3 hO3 (fun b hb => by
   rcases hb with hb | hb
   . exact Or.inl hb
   . exact Or.inr hb.1)
  have HS3 := hide hS3
  have HDD := hide hDD
  have hCO := uh HCO
  obtain ⟨l1, l2, l3, l4, l5⟩ := lateN_pres B f B.sws.length
  have hr1 : (B.s1 f).rts = B.rts := l2
  have H2 := hide (stepRoutes_f _ _ g (B.s1 f) _ f w3 hS3.boxf (by rw [hr1]; exact hCO.g0.rl) (by rw [hr1]; exact hCO.g0.ok) hCO.gave)
  obtain ⟨⟨y0, y1, y2⟩, -, qf⟩ := tri0 hS3.fr
  clear hB3 hO3 hS3 hDD H1 HBF2 HW2 HF2 hCO l1 l2 l3 l4 l5 hr1 hW2
  go_wp2_with fail
  refine (uh H2).mono ?_
  rintro e w4 ⟨rfl, hB4, hO4⟩
  have hS4 := (uh HS3).op (uh HDD) hlw hB4 hO4 (fun b hb => by
   rcases hb with hb | hb
   . exact Or.inl hb
   . exact Or.inr hb.1)
  have HS4 := hide hS4
  have H3 := hide (obey_any _ _ g (B.s2 f) _ f w4 hS4.boxf (uh HCO).w2 (uh HCO).cm)
  clear y0 y1 y2 qf
  obtain ⟨⟨y0, y1, y2⟩, -, qf⟩ := tri0 hS4.fr
  clear hB4 hO4 hS4 H2 HS3 HS2
  go_wp2_with fail
  refine (uh H3).mono ?_
  rintro e w5 ⟨v5, rfl, D5, o5, hBs, hown5, hnd5⟩
  have hS5 := (uh HS4).op (uh HDD) hlw hBs.boxf hBs.only (fun b hb => (hBs.from_ b hb).imp id (fun h => Nat.le_of_lt h))
  have HS5 := hide hS5
  have H4 := hide (grantFromQueue_any _ _ g (B.s3 f) _ f w5 hS5.boxf (uh HCO).g3 (uh HCO).w3)
  have HO5 := hide (And.intro hown5 hnd5)
  obtain ⟨av, cv, hv5⟩ := slice_of_own hown5
  subst hv5
  clear y0 y1 y2 qf
  obtain ⟨⟨y0, y1, y2⟩, -, qf⟩ := tri0 hS5.fr
  clear hBs hown5 hnd5 hS5 H3 HS4
  go_wp2_with fail
  refine (uh H4).mono ?_
  rintro e w6 ⟨v6, rfl, D6, o6, hBs, hown6, hnd6⟩
  have hS6 := (uh HS5).op (uh HDD) hlw hBs.boxf hBs.only (fun b hb => (hBs.from_ b hb).imp id (fun h => Nat.le_of_lt h))
  have HS6 := hide hS6
  have hown5' := own_only (uh HO5).1 hBs.only (uh HO5).2
  have hCO := uh HCO
  have H5 := hide (answer_any g (B.s4 f) _ _ v6 f _ _ w6 hS6.boxf.box.at hS6.boxf.frame.at (Byts.ofOwn hown5' rfl) (Ints.ofOwn hown6 rfl) hCO.g4.1 hCO.g4.2.1 hCO.g4.2.2 hCO.sv.1 hCO.sv.2 hCO.da)
  obtain ⟨a6, c6, hv6⟩ := slice_of_own hown6
  subst hv6
  clear y0 y1 y2 qf
  obtain ⟨⟨y0, y1, y2⟩, -, qf⟩ := tri0 hS6.fr
  clear hBs hown6 hnd6 hS6 H4 HS5 hown5' hCO HO5
  go_wp2_with fail
  refine (uh H5).mono ?_
  rintro e w7 ⟨rfl, hb7⟩
  have hS6 := uh HS6
  have HFIN := hide (show PBoxIn w7 (grow D w w7) g (B.s4 f) /\ Only D w w7 from ⟨(hS6.boxf.box.only (Only.of_below (F := fun _ => False) hb7) (fun _ _ h => h)).mono (fun b hb => by
    have hlt := hS6.boxf.box.lt b hb
    rcases hS6.from_ b hb with h5 | h5
    . exact Or.inl h5
    . exact Or.inr ⟨h5.1, Nat.lt_of_lt_of_le hlt hb7.size⟩) (grow_lt (uh HDD) (Nat.le_trans hS6.only.size hb7.size)), hS6.only.trans (Only.of_below hb7)⟩)
  clear hb7 hS6 H5 y0 y1 y2
  go_wp2
  go_ret
  exact ⟨by rw [(uh HA2).1] <;> rfl, by rw [(uh HA2).2]; exact (uh HFIN).1, (uh HFIN).2⟩
end Go.Proofs.YtkbpocecbcaiiaaGreatDoor
namespace Go.Proofs.YtkbpocecbcaiiaaGreatDoor
open Go.RowKit
theorem flankL_sgn (s : ByteArray) : ∀ (f p : Nat) (x : Nat × Nat), x ∈ (flankL s f p).1 -> x.2 ≠ 0
 | 0, p, x, h => by simp [flankL] at h
 | f + 1, p, x, h => by
  unfold flankL at h
  split at h
  . split at h
   . simp at h
   . rename_i h1 h2
    rcases List.mem_cons.1 h with rfl | h
    . exact h2
    . exact flankL_sgn s f (p + 2) x h
  . simp at h
theorem routeL_sgn (s : ByteArray) (p : Nat) (x : Nat × Nat) (h : x ∈ (routeL s p).2.2.flank) : x.2 ≠ 0 := by
 unfold routeL at h
 split at h
 . simp [Rt0] at h
 split at h
 . simp [Rt0] at h
 split at h
 . simp [Rt0] at h
 split at h
 . simp at h
 . exact flankL_sgn s _ _ x h
theorem rtsL_sgn (s : ByteArray) : ∀ (f p : Nat) (r : Rt), r ∈ (rtsL s f p).2.2 -> ∀ x, x ∈ r.flank -> x.2 ≠ 0
 | 0, p, r, h => by simp [rtsL] at h
 | f + 1, p, r, h => by
  unfold rtsL at h
  split at h
  . simp at h
  . split at h
   . rcases List.mem_cons.1 h with rfl | h
    . exact fun x => routeL_sgn s p x
    . exact rtsL_sgn s f _ r h
   . rcases List.mem_cons.1 h with rfl | h
    . exact fun x => routeL_sgn s p x
    . simp at h
theorem layL_sgn (s : ByteArray) (r : Rt) (h : r ∈ (layL s).2.2.rts) : ∀ x, x ∈ r.flank -> x.2 ≠ 0 := by
 unfold layL at h
 split at h
 . simp at h
 split at h
 . simp at h
 split at h
 . simp at h
 split at h
 . simp at h
 split at h
 . simp at h
 split at h
 . simp at h
 . exact rtsL_sgn s _ _ r h
theorem layL_T (s : ByteArray) (h : (layL s).1 = true) : (1 <= (layL s).2.2.T /\ (layL s).2.2.T <= 9) /\ (1 <= (layL s).2.2.D /\ (layL s).2.2.D <= 9) /\ (1 <= (layL s).2.2.Q /\ (layL s).2.2.Q <= 9) := by
 have ht := (times_ok s).2
 unfold layL at h ⊢
 by_cases h1 : timesN s 0 = 3
 . have h2 : ¬ timesN s 0 ≠ 3 := by simpa using h1
  rw [if_neg h2] at h ⊢
  obtain ⟨-, -, h3⟩ := ht h1
  have a0 := h3 0 (by omega)
  have a1 := h3 1 (by omega)
  have a2 := h3 2 (by omega)
  repeat' split
  all_goals first
   | (exfalso; simp_all; done)
   | (show (1 <= pk s 0 - 48 /\ pk s 0 - 48 <= 9) /\ (1 <= pk s 1 - 48 /\ pk s 1 - 48 <= 9) /\ (1 <= pk s 2 - 48 /\ pk s 2 - 48 <= 9); omega)
 . rw [if_pos h1] at h
  simp at h
structure RtOK (L : Lay) (r : Rt) : Prop where
 ne : r.path ≠ []
 pl : r.path.length <= 6
 fl : r.flank.length <= 4
 foot : r.foot < L.sw.length
 pn : (secs r.path).Nodup
 ps : ∀ x, x ∈ r.path -> x.1 < L.sw.length /\ (L.sw.getD x.1 false = (x.2 != 0))
 fs : ∀ x, x ∈ r.flank -> x.1 < L.sw.length /\ L.sw.getD x.1 false = true /\ has r.path x.1 = false /\ x.2 ≠ 0
 fn : (secs r.flank).Nodup
structure LayOK (L : Lay) : Prop where
 good : L.Good
 T : 1 <= L.T /\ L.T <= 9
 D : 1 <= L.D /\ L.D <= 9
 Q : 1 <= L.Q /\ L.Q <= 9
 sw : L.sw.length <= 16
 rl : L.rts.length <= 12
 rts : ∀ r, r ∈ L.rts -> RtOK L r
theorem nodup_of (l : List Nat) (h : ∀ i, i < l.length -> (l.filter (· == l.getD i 0)).length <= 1) : l.Nodup := by
 rw [List.nodup_iff_count]
 intro a
 by_cases ha : a ∈ l
 . obtain ⟨i, hi, rfl⟩ := List.mem_iff_getElem.1 ha
  have := h i hi
  rw [List.getD_eq_getElem?_getD, List.getElem?_eq_getElem hi] at this
  rw [List.count_eq_length_filter]
  exact this
 . rw [List.count_eq_zero_of_not_mem ha]; omega
theorem mem_getD {l : List (Nat × Nat)} {x : Nat × Nat} (h : x ∈ l) : ∃ i, i < l.length /\ l.getD i (0, 0) = x := by
 obtain ⟨i, hi, rfl⟩ := List.mem_iff_getElem.1 h
 exact ⟨i, hi, by rw [List.getD_eq_getElem?_getD, List.getElem?_eq_getElem hi]; rfl⟩
theorem rtOK_of (L : Lay) (r : Rt) (hne : r.path ≠ []) (hp : r.path.length <= 6) (hf : r.flank.length <= 4) (hs : ∀ x, x ∈ r.flank -> x.2 ≠ 0) (h : L.crooked r = false) : RtOK L r := by
 unfold Lay.crooked at h
 simp only [Bool.or_eq_false_iff, decide_eq_false_iff_not, List.any_eq_false, List.mem_range] at h
 obtain ⟨⟨h1, h2⟩, h3⟩ := h
 refine ⟨hne, hp, hf, by omega, ?_, ?_, ?_, ?_⟩
 . refine nodup_of _ (fun i hi => ?_)
  have := h2 i (by rw [secs_length] at hi; exact hi)
  unfold Lay.badPath at this
  simp only [Bool.or_eq_true, not_or, decide_eq_true_eq] at this
  rw [secs_getD]
  have := this.1.1.2
  omega
 . intro x hx
  obtain ⟨i, hi, rfl⟩ := mem_getD hx
  have := h2 i hi
  unfold Lay.badPath at this
  simp only [Bool.or_eq_true, not_or, decide_eq_true_eq] at this
  refine ⟨by have := this.1.1.1; omega, ?_⟩
  have := this.2
  simpa using this
 . intro x hx
  obtain ⟨i, hi, rfl⟩ := mem_getD hx
  have := h3 i hi
  unfold Lay.badFlank at this
  simp only [Bool.or_eq_true, not_or, decide_eq_true_eq] at this
  refine ⟨by have := this.1.1.1.1; omega, by have := this.2; simpa using this, by have := this.1.1.2; simpa using this, hs _ hx⟩
 . refine nodup_of _ (fun i hi => ?_)
  have := h3 i (by rw [secs_length] at hi; exact hi)
  unfold Lay.badFlank at this
  simp only [Bool.or_eq_true, not_or, decide_eq_true_eq] at this
  rw [secs_getD]
  have := this.1.1.1.2
  omega
theorem layOK_of (s : ByteArray) (h : (errOf s.data.toList).1 = 0) : LayOK (layOf s.data.toList) /\ (layL s).2.2 = layOf s.data.toList := by
 obtain ⟨e0, hbig⟩ := lay_same s h
 have hlen : s.data.toList.length = s.size := by simp
 have hs : s.size <= 256 := by
  unfold errOf at h
  by_cases hh : 256 < s.data.toList.length
  . rw [if_pos hh] at h; simp at h
  . omega
 rcases form_eq s hs with ⟨f1, f2, f3, f4⟩ | ⟨f1, f2, f3⟩
 case inr =>
  exfalso
  unfold errOf at h
  rw [if_neg (by omega), if_pos f2] at h
  simp at h
 have hl1 : (layL s).1 = true := by
  unfold formOf at f1
  rw [if_neg (by omega)] at f1
  by_cases hh : ((layL s).1 && decide ((layL s).2.1 = s.size)) = false
  . rw [if_pos hh] at f1; simp at f1
  . simp at hh; exact hh.1
 have hT := layL_T s hl1
 have hsg := layL_sgn s
 rw [e0] at hT hsg f4
 refine ⟨?_, e0⟩
 obtain ⟨L, hL⟩ : ∃ L, L = layOf s.data.toList := ⟨_, rfl⟩
 unfold errOf at h
 rw [if_neg (by omega), if_neg (by simpa using f2), if_neg (by simp [hbig])] at h
 rw [<- hL] at hT hsg f4 hbig h ⊢
 obtain ⟨b1, b2, b3⟩ := big_small hbig
 have hbig' := hbig
 unfold Lay.big at hbig'
 simp only [Bool.or_eq_false_iff, decide_eq_false_iff_not, List.any_eq_false, Bool.or_eq_true, not_or, decide_eq_true_eq] at hbig'
 obtain ⟨⟨-, hb4⟩, hb5⟩ := hbig'
 have hcr : ∀ i, i < L.rts.length -> L.crooked (L.rt i) = false := by
  intro i hi
  cases hc : L.crooked (L.rt i) with
  | false => rfl
  | true =>
   exfalso
   cases hf : (List.range L.rts.length).find? (fun i => L.crooked (L.rt i)) with
   | none =>
    have := List.find?_eq_none.1 hf i (List.mem_range.2 hi)
    simp [hc] at this
   | some j => rw [hf] at h; simp at h
 have hst : ∀ i, i < L.tns.length -> L.stray i = false := by
  intro i hi
  cases hc : L.stray i with
  | false => rfl
  | true =>
   exfalso
   cases hf : (List.range L.rts.length).find? (fun i => L.crooked (L.rt i)) with
   | some j => rw [hf] at h; simp at h
   | none =>
    rw [hf] at h
    cases hf2 : (List.range L.tns.length).find? (fun i => L.stray i) with
    | none =>
     have := List.find?_eq_none.1 hf2 i (List.mem_range.2 hi)
     simp [hc] at this
    | some j => rw [hf2] at h; simp at h
 refine ⟨⟨f4, ?_, b3, fun t ht => by have := hb5 t ht; omega, fun r hr => by have := (hb4 r hr).1; omega⟩, hT.1, hT.2.1, hT.2.2, b1, b2, ?_⟩
 . intro t ht r hr
  obtain ⟨i, hi, rfl⟩ := List.mem_iff_getElem.1 ht
  have := hst i hi
  unfold Lay.stray at this
  simp only [Bool.or_eq_false_iff, Bool.not_eq_false'] at this
  have e : L.tn i = L.tns[i] := by unfold Lay.tn; rw [List.getD_eq_getElem?_getD, List.getElem?_eq_getElem hi]; rfl
  rw [e] at this
  exact joins_lt L _ _ this.2 r hr
 . intro r hr
  obtain ⟨i, hi, rfl⟩ := List.mem_iff_getElem.1 hr
  have e : L.rt i = L.rts[i] := by unfold Lay.rt; rw [List.getD_eq_getElem?_getD, List.getElem?_eq_getElem hi]; rfl
  have := hcr i hi
  rw [e] at this
  exact rtOK_of L _ (f4 _ hr) (by have := (hb4 _ hr).1; omega) (by have := (hb4 _ hr).2; omega) (hsg _ hr) this
end Go.Proofs.YtkbpocecbcaiiaaGreatDoor
namespace Go.Proofs.YtkbpocecbcaiiaaGreatDoor
open Go.RowKit
theorem mem_signOf : ∀ {l : List (Nat × Nat)}, (secs l).Nodup -> ∀ {x : Nat × Nat}, x ∈ l -> signOf l x.1 = some x.2
 | [], _, x, h => by simp at h
 | y :: l, hn, x, h => by
  have hn' : (y.1 :: secs l).Nodup := hn
  rw [List.nodup_cons] at hn'
  unfold signOf
  rcases List.mem_cons.1 h with rfl | h
  . simp
  . have : y.1 ≠ x.1 := by
    intro e
    exact hn'.1 (e ▸ List.mem_map_of_mem h)
   have ih := mem_signOf hn'.2 h
   unfold signOf at ih
   rw [List.find?_cons_of_neg (by simpa using this)]
   exact ih
theorem signOf_mem {l : List (Nat × Nat)} {s c : Nat} (h : signOf l s = some c) : (s, c) ∈ l := by
 unfold signOf at h
 obtain ⟨x, hx, rfl⟩ := Option.map_eq_some_iff.1 h
 have h1 := List.mem_of_find?_eq_some hx
 have h2 := List.find?_some hx
 have h2' : x.1 = s := by simpa using h2
 subst h2'
 exact h1
theorem signOf_no {l : List (Nat × Nat)} {s : Nat} (h : has l s = false) : signOf l s = none := by
 unfold signOf
 have : l.find? (fun x => x.1 == s) = none := by
  rw [List.find?_eq_none]
  intro x hx hh
  have h2 : x.1 = s := by simpa using hh
  subst h2
  have : has l x.1 = true := by
   unfold has
   exact List.contains_iff_mem.2 (List.mem_map_of_mem hx)
  rw [this] at h; simp at h
 rw [this]; rfl
theorem has_iff (l : List (Nat × Nat)) (s : Nat) : has l s = true ↔ ∃ x, x ∈ l /\ x.1 = s := by
 unfold has secs
 rw [List.contains_iff_mem]
 simp only [List.mem_map]
theorem sws_iff {L : Lay} {r : Nat} (h : RtOK L (L.rt r)) (x : Nat × Nat) : x ∈ swsOf (L.rt r) ↔ (x.2 ≠ 0 /\ L.wantsF r x.1 = x.2) := by
 unfold swsOf
 rw [List.mem_append, List.mem_filter]
 constructor
 . rintro (⟨h1, h2⟩ | h1)
  . refine ⟨by simpa using h2, ?_⟩
   unfold Lay.wantsF
   rw [mem_signOf h.pn h1]
  . obtain ⟨-, -, a, b⟩ := h.fs x h1
   refine ⟨b, ?_⟩
   unfold Lay.wantsF
   rw [signOf_no a, mem_signOf h.fn h1]
   rfl
 . rintro ⟨h1, h2⟩
  unfold Lay.wantsF at h2
  cases hp : signOf (L.rt r).path x.1 with
  | some c =>
   rw [hp] at h2
   have h2' : c = x.2 := h2
   subst h2'
   exact Or.inl ⟨signOf_mem hp, by simpa using h1⟩
  | none =>
   rw [hp] at h2
   cases hf : signOf (L.rt r).flank x.1 with
   | some c =>
    rw [hf] at h2
    have h2' : c = x.2 := h2
    subst h2'
    exact Or.inr (signOf_mem hf)
   | none =>
    rw [hf] at h2
    exact absurd h2.symm h1
theorem wants_sw {L : Lay} {r s : Nat} (h : RtOK L (L.rt r)) (hw : L.wantsF r s ≠ 0) : s < L.sw.length /\ L.sw.getD s false = true := by
 have hm := (sws_iff h (s, L.wantsF r s)).2 ⟨hw, rfl⟩
 unfold swsOf at hm
 rw [List.mem_append, List.mem_filter] at hm
 rcases hm with ⟨h1, -⟩ | h1
 . obtain ⟨a, b⟩ := h.ps _ h1
  exact ⟨a, by rw [b]; simpa using hw⟩
 . obtain ⟨a, b, -⟩ := h.fs _ h1
  exact ⟨a, b⟩
theorem has_sws {L : Lay} {r : Nat} (h : RtOK L (L.rt r)) (s : Nat) : has (swsOf (L.rt r)) s = (L.wantsF r s != 0) := by
 rw [Bool.eq_iff_iff, has_iff]
 constructor
 . rintro ⟨x, hx, rfl⟩
  obtain ⟨a, b⟩ := (sws_iff h x).1 hx
  rw [b]; simpa using a
 . intro hw
  exact ⟨(s, L.wantsF r s), (sws_iff h _).2 ⟨by simpa using hw, rfl⟩, rfl⟩
theorem all_sws {L : Lay} {r : Nat} (h : RtOK L (L.rt r)) (g : Nat × Nat -> Bool) : (swsOf (L.rt r)).all g = (List.range L.sw.length).all (fun s => L.wantsF r s == 0 || g (s, L.wantsF r s)) := by
 rw [Bool.eq_iff_iff, List.all_eq_true, List.all_eq_true]
 constructor
 . intro ha s _
  by_cases hw : L.wantsF r s = 0
  . simp [hw]
  . rw [ha _ ((sws_iff h (s, L.wantsF r s)).2 ⟨hw, rfl⟩)]; simp
 . intro ha x hx
  obtain ⟨a, b⟩ := (sws_iff h x).1 hx
  have hs := (wants_sw h (s := x.1) (by rw [b]; exact a)).1
  have := ha x.1 (List.mem_range.2 hs)
  rw [b] at this
  simpa [a] using this
theorem any_sws {L : Lay} {r : Nat} (h : RtOK L (L.rt r)) (g : Nat × Nat -> Bool) : (swsOf (L.rt r)).any g = (List.range L.sw.length).any (fun s => L.wantsF r s != 0 && g (s, L.wantsF r s)) := by
 have := all_sws h (fun x => !g x)
 rw [List.any_eq_not_all_not, List.any_eq_not_all_not, this]
 congr 1
 refine List.all_congr rfl ?_
 intro s
 simp [bne]
theorem all_path {L : Lay} {r : Nat} (h : RtOK L (L.rt r)) (g : Nat -> Bool) : (L.rt r).path.all (fun x => g x.1) = (List.range L.sw.length).all (fun s => !has (L.rt r).path s || g s) := by
 rw [Bool.eq_iff_iff, List.all_eq_true, List.all_eq_true]
 constructor
 . intro ha s _
  cases hh : has (L.rt r).path s with
  | false => rfl
  | true =>
   obtain ⟨x, hx, rfl⟩ := (has_iff _ _).1 hh
   rw [ha x hx]; rfl
 . intro ha x hx
  have := ha x.1 (List.mem_range.2 (h.ps x hx).1)
  rw [(has_iff _ _).2 ⟨x, hx, rfl⟩] at this
  simpa using this
theorem all_andq (l : List Nat) (p q : Nat -> Bool) : (l.all p && l.all q) = l.all (fun s => p s && q s) := by
 rw [Bool.eq_iff_iff]
 simp only [Bool.and_eq_true, List.all_eq_true]
 exact ⟨fun h s hs => ⟨h.1 s hs, h.2 s hs⟩, fun h => ⟨fun s hs => (h s hs).1, fun s hs => (h s hs).2⟩⟩
theorem all_cg {p q : Nat -> Bool} {n : Nat} (h : ∀ s, s < n -> p s = q s) : (List.range n).all p = (List.range n).all q := by
 rw [Bool.eq_iff_iff]
 simp only [List.all_eq_true, List.mem_range]
 exact ⟨fun a s hs => (h s hs) ▸ a s hs, fun a s hs => (h s hs) ▸ a s hs⟩
theorem any_cg {p q : Nat -> Bool} {n : Nat} (h : ∀ s, s < n -> p s = q s) : (List.range n).any p = (List.range n).any q := by
 rw [Bool.eq_iff_iff]
 simp only [List.any_eq_true, List.mem_range]
 exact ⟨fun ⟨s, hs, a⟩ => ⟨s, hs, (h s hs) ▸ a⟩, fun ⟨s, hs, a⟩ => ⟨s, hs, (h s hs) ▸ a⟩⟩
structure LR (L : Lay) (r : Nat) (y : PRt) (x : RLn) : Prop where
 rt : y.rt = L.rt r
 ph : y.ph = x.ph
 tr : x.ph ≠ 46 -> y.train = x.train
 be : x.ph ≠ 46 -> y.been = x.been
 fr : x.ph ≠ 46 -> y.freed = x.gone
 ml : x.ph ≠ 46 -> y.marked.length = (L.rt r).path.length
 mks : x.ph = 116 -> y.marked = x.marks
 ct : x.ph = 100 -> y.count = x.count
 cb : y.count <= 1000
 fb : y.freed <= 1000
 mb : y.marked.length <= 1000
structure LI (L : Lay) (r : Nat) (x : RLn) : Prop where
 g0 : x.ph ≠ 116 -> x.gone = 0
 ps : x.ph = 116 -> x.marks.length = (L.rt r).path.length /\ x.gone < (L.rt r).path.length
 ct : x.count <= 1000
structure Sim (B : PBx) (C : RBx) : Prop where
 L : B.L = C.L
 rl : B.rts.length = C.L.rts.length
 lr : ∀ r, r < C.L.rts.length -> LR C.L r (B.route r) (C.line r)
 sl : B.sws.length = C.L.sw.length
 sw : ∀ s, s < C.L.sw.length -> C.L.sw.getD s false = true -> (B.sw s).wanted = C.wanted.getD s 0 /\ (B.sw s).failed = C.failed.getD s false /\ (B.sw s).late = C.late.getD s 0
 lt : ∀ s, (B.sw s).late <= 1000
 sta : B.sta = C.sta
 waits : B.waits = C.waits
structure Inv (C : RBx) : Prop where
 lay : LayOK C.L
 ll : C.lines.length = C.L.rts.length
 wl : C.wanted.length = C.L.sw.length
 fl : C.failed.length = C.L.sw.length
 dl : C.late.length = C.L.sw.length
 st : C.sta.length = C.L.tns.length
 sj : ∀ t, C.sta.getD t 0 <= (C.L.tn t).jny.length
 late : ∀ s, C.late.getD s 0 < C.L.T
 li : ∀ r, r < C.L.rts.length -> LI C.L r (C.line r)
 tr : ∀ r, r < C.L.rts.length -> (C.line r).ph ≠ 46 -> (C.line r).train < C.L.tns.length /\ 1 <= C.sta.getD (C.line r).train 0
 one : ∀ r r', r < C.L.rts.length -> r' < C.L.rts.length -> (C.line r).ph ≠ 46 -> (C.line r').ph ≠ 46 -> (C.line r).train = (C.line r').train -> r = r'
 wq : C.waits.length <= C.L.Q
 wn : C.waits.Nodup
 wt : ∀ t, t ∈ C.waits -> t < C.L.tns.length /\ C.sta.getD t 0 < (C.L.tn t).jny.length
structure FrS (pf : PFr) (f : Fr) (L : Lay) : Prop where
 occ : pf.occ = f.occ
 rep : pf.rep = f.rep
 ol : f.occ.length = L.sw.length
 pl : f.rep.length = L.sw.length
theorem Inv.rt {C : RBx} (h : Inv C) {r : Nat} (hr : r < C.L.rts.length) : RtOK C.L (C.L.rt r) := by
 refine h.lay.rts _ ?_
 unfold Lay.rt
 rw [List.getD_eq_getElem?_getD, List.getElem?_eq_getElem hr]
 exact List.getElem_mem hr
theorem Sim.lockB {B : PBx} {C : RBx} (h : Sim B C) {r : Nat} (hr : r < C.L.rts.length) (s : Nat) : B.lockB s r = C.lockB s r := by
 have hl := h.lr r hr
 show (B.route r).lockB s = C.lockB s r
 unfold PRt.lockB RBx.lockB
 rw [hl.rt, hl.ph]
 by_cases hp : (C.line r).ph = 46
 . rw [hp]; rfl
 . rw [hl.fr hp]
theorem Sim.lockedBy {B : PBx} {C : RBx} (h : Sim B C) (hi : Inv C) (s : Nat) : B.lockedBy s = C.lockedBy s := by
 unfold PBx.lockedBy RBx.lockedBy
 rw [h.rl, hi.ll]
 exact find_congr _ (fun r hr => h.lockB (List.mem_range.1 hr) s)
theorem Sim.heldB {B : PBx} {C : RBx} (h : Sim B C) (hi : Inv C) (s : Nat) : B.heldB s = C.heldB s := by
 unfold PBx.heldB RBx.heldB
 rw [h.lockedBy hi, h.rl, hi.ll, Bool.or_comm]
 congr 1
 refine any_cg (fun r hr => ?_)
 have hl := h.lr r hr
 unfold PBx.flankB RBx.flankB PRt.flankB
 rw [hl.rt, hl.ph]
theorem Sim.setFor {B : PBx} {C : RBx} (h : Sim B C) (hi : Inv C) (t : Nat) : B.setFor t = C.isSet t := by
 unfold PBx.setFor RBx.isSet
 rw [h.rl, hi.ll]
 refine any_cg (fun r hr => ?_)
 have hl := h.lr r hr
 unfold RBx.setB PRt.setB
 rw [hl.ph]
 by_cases hp : (C.line r).ph = 46
 . rw [hp]; rfl
 . rw [hl.tr hp]
theorem Sim.broken {B : PBx} {C : RBx} (h : Sim B C) (hi : Inv C) {r : Nat} (hr : r < C.L.rts.length) : B.anyF (swsOf (C.L.rt r)) = C.broken r := by
 unfold PBx.anyF RBx.broken
 rw [any_sws (hi.rt hr)]
 refine any_cg (fun s hs => ?_)
 unfold RBx.brokenB
 by_cases hw : C.L.wantsF r s = 0
 . rw [hw]; rfl
 . rw [(h.sw s hs (wants_sw (hi.rt hr) hw).2).2.1]
theorem right_eq {C : RBx} {pf : PFr} {f : Fr} (hf : FrS pf f C.L) (hi : Inv C) {r : Nat} (hr : r < C.L.rts.length) : (swsOf (C.L.rt r)).all (fun i => pf.repAs i.1 i.2) = C.right f r := by
 unfold RBx.right
 rw [all_sws (hi.rt hr)]
 refine all_cg (fun s hs => ?_)
 unfold RBx.rightB PFr.repAs
 rw [hf.rep]
 have : decide (s < f.rep.length) = true := by rw [hf.pl]; simpa using hs
 simp only [this, Bool.true_and]
theorem busy_eq {C : RBx} {pf : PFr} {f : Fr} (hf : FrS pf f C.L) (r : Nat) : pf.freeB (C.L.rt r).path = !C.busy f r := by
 unfold PFr.freeB RBx.busy busyF RBx.pth secs
 rw [hf.occ, List.any_map, List.any_eq_not_all_not, Bool.not_not]
 rfl
theorem ready_eq {C : RBx} {pf : PFr} {f : Fr} {y : PRt} (hf : FrS pf f C.L) (hi : Inv C) {r : Nat} (hr : r < C.L.rts.length) (hy : y.rt = C.L.rt r) : y.readyB pf = (C.right f r && !C.busy f r) := by
 unfold PRt.readyB
 rw [hy, right_eq hf hi hr, busy_eq hf]
theorem Sim.free {B : PBx} {C : RBx} {pf : PFr} {f : Fr} (h : Sim B C) (hi : Inv C) (hf : FrS pf f C.L) {r : Nat} (hr : r < C.L.rts.length) :
  ((B.lockOK (C.L.rt r).path && pf.freeB (C.L.rt r).path) && B.wantOK pf (swsOf (C.L.rt r))) = C.free f r := by
 unfold PBx.wantOK
 rw [h.broken hi hr]
 have e1 : B.lockOK (C.L.rt r).path = (List.range C.L.sw.length).all (fun s => !has (C.L.rt r).path s || !(B.lockedBy s).isSome) := all_path (hi.rt hr) (fun s => !(B.lockedBy s).isSome)
 have e2 : pf.freeB (C.L.rt r).path = (List.range C.L.sw.length).all (fun s => !has (C.L.rt r).path s || !pf.occ.getD s false) := all_path (hi.rt hr) (fun s => !pf.occ.getD s false)
 have e3 : (!C.broken r) = (List.range C.L.sw.length).all (fun s => !C.brokenB r s) := by
  unfold RBx.broken
  rw [List.any_eq_not_all_not, Bool.not_not]
 rw [e1, e2, e3, all_sws (hi.rt hr), all_andq, all_andq, all_andq]
 unfold RBx.free
 refine all_cg (fun s hs => ?_)
 unfold RBx.freeB RBx.brokenB PBx.wantOK1 PBx.wantedAs RBx.takenB
 simp only
 rw [h.lockedBy hi, h.heldB hi, hf.occ]
 have hsl : decide (s < B.sws.length) = true := by rw [h.sl]; simpa using hs
 rw [hsl]
 have hh : C.heldB s = ((C.lockedBy s).isSome || (List.range C.lines.length).any (C.flankB s)) := rfl
 rw [hh]
 by_cases hw : C.L.wantsF r s = 0
 . rw [hw]
  cases has (C.L.rt r).path s <;> cases (C.lockedBy s).isSome <;> cases f.occ.getD s false <;> simp
 . rw [(h.sw s hs (wants_sw (hi.rt hr) hw).2).1]
  have hw1 : (C.L.wantsF r s == 0) = false := by simpa using hw
  have hw2 : (C.L.wantsF r s != 0) = true := by simpa using hw
  rw [hw1, hw2]
  rw [show (C.wanted.getD s 0 != C.L.wantsF r s) = !(C.wanted.getD s 0 == C.L.wantsF r s) from rfl]
  generalize (C.wanted.getD s 0 == C.L.wantsF r s) = q1
  generalize has (C.L.rt r).path s = q2
  generalize (C.lockedBy s).isSome = q3
  generalize f.occ.getD s false = q4
  generalize C.failed.getD s false = q5
  generalize (List.range C.lines.length).any (C.flankB s) = q6
  revert q1 q2 q3 q4 q5 q6
  decide
theorem any_andc (n : Nat) (p : Nat -> Bool) (c : Bool) : (List.range n).any (fun r => p r && c) = ((List.range n).any p && c) := by
 cases c
 . simp
 . simp
theorem Sim.move {B : PBx} {C : RBx} {pf : PFr} {f : Fr} (h : Sim B C) (hi : Inv C) (hf : FrS pf f C.L) {s : Nat} (hs : s < C.L.sw.length) (hw : C.L.sw.getD s false = true) : B.moveC pf s = C.moveF f s := by
 unfold PBx.moveC RBx.moveF
 obtain ⟨e1, e2, -⟩ := h.sw s hs hw
 have ea : B.awaitB s = (List.range C.lines.length).any (fun r => (C.line r).ph == 119 && C.L.wantsF r s != 0) := by
  unfold PBx.awaitB
  rw [h.rl, hi.ll]
  refine any_cg (fun r hr => ?_)
  have hl := h.lr r hr
  unfold PRt.awaitB
  rw [hl.rt, hl.ph, has_sws (hi.rt hr)]
 have eb : (List.range C.lines.length).any (C.moveB f s) = ((List.range C.lines.length).any (fun r => (C.line r).ph == 119 && C.L.wantsF r s != 0) && (!f.occ.getD s false && !C.failed.getD s false && f.rep.getD s 0 != C.wanted.getD s 0)) := by
  rw [<- any_andc]
  refine any_cg (fun r hr => ?_)
  unfold RBx.moveB
  simp only [Bool.and_assoc]
 have er : pf.repAs s (C.wanted.getD s 0) = (f.rep.getD s 0 == C.wanted.getD s 0) := by
  unfold PFr.repAs
  rw [hf.rep]
  have : decide (s < f.rep.length) = true := by rw [hf.pl]; simpa using hs
  rw [this, Bool.true_and]
 rw [e1, e2, ea, eb, hf.occ, er]
 simp only [bne, Bool.and_assoc]
end Go.Proofs.YtkbpocecbcaiiaaGreatDoor
namespace Go.Proofs.YtkbpocecbcaiiaaGreatDoor
open Go.RowKit
theorem getD_setq {α : Type} (l : List α) (i j : Nat) (x d : α) (hi : i < l.length) : (l.set i x).getD j d = if j = i then x else l.getD j d := by
 simp only [List.getD_eq_getElem?_getD, List.getElem?_set]
 by_cases h : i = j
 . subst h; simp [hi]
 . rw [if_neg h, if_neg (by omega)]
theorem getD_setn {α : Type} (l : List α) (i j : Nat) (x d : α) (h : j ≠ i) : (l.set i x).getD j d = l.getD j d := by
 simp only [List.getD_eq_getElem?_getD, List.getElem?_set]
 rw [if_neg (by omega)]
theorem set_selfq {α : Type} (l : List α) (i : Nat) (d : α) (hi : i < l.length) : l.set i (l.getD i d) = l := by
 rw [List.getD_eq_getElem?_getD, List.getElem?_eq_getElem hi]
 exact List.set_getElem_self hi
theorem line_putq (C : RBx) (r r' : Nat) (x : RLn) (hr : r < C.lines.length) : (C.put r x).line r' = if r' = r then x else C.line r' := getD_setq _ _ _ _ _ hr
theorem route_putq (B : PBx) (r r' : Nat) (y : PRt) (hr : r < B.rts.length) : (B.putR r y).route r' = if r' = r then y else B.route r' := getD_setq _ _ _ _ _ hr
theorem sw_putq (B : PBx) (s s' : Nat) (y : PSw) (hs : s < B.sws.length) : (B.putS s y).sw s' = if s' = s then y else B.sw s' := getD_setq _ _ _ _ _ hs
theorem put_selfq (C : RBx) (r : Nat) (hr : r < C.lines.length) : C.put r (C.line r) = C := by
 unfold RBx.put RBx.line
 rw [set_selfq _ _ _ hr]
theorem Sim.put {B : PBx} {C : RBx} (h : Sim B C) (hi : Inv C) {r : Nat} (hr : r < C.L.rts.length) {y : PRt} {x : RLn} (hy : LR C.L r y x) : Sim (B.putR r y) (C.put r x) := by
 refine ⟨h.L, (by show (B.rts.set r y).length = _; rw [List.length_set]; exact h.rl), fun r' hr' => ?_, h.sl, h.sw, h.lt, h.sta, h.waits⟩
 rw [line_putq C r r' x (by rw [hi.ll]; exact hr), route_putq B r r' y (by rw [h.rl]; exact hr)]
 by_cases e : r' = r
 . subst e; rw [if_pos rfl, if_pos rfl]; exact hy
 . rw [if_neg e, if_neg e]; exact h.lr r' hr'
theorem Inv.put {C : RBx} (h : Inv C) {r : Nat} (hr : r < C.L.rts.length) {x : RLn} (hx : LI C.L r x) (ht : x.ph ≠ 46 -> (C.line r).ph ≠ 46 /\ x.train = (C.line r).train) : Inv (C.put r x) := by
 have hl := fun r' => line_putq C r r' x (by rw [h.ll]; exact hr)
 refine ⟨h.lay, (by show (C.lines.set r x).length = _; rw [List.length_set]; exact h.ll), h.wl, h.fl, h.dl, h.st, h.sj, h.late, fun r' hr' => ?_, fun r' hr' => ?_, fun a b ha hb => ?_, h.wq, h.wn, h.wt⟩
 . rw [hl]
  by_cases e : r' = r
  . subst e; rw [if_pos rfl]; exact hx
  . rw [if_neg e]; exact h.li r' hr'
 . rw [hl]
  by_cases e : r' = r
  . subst e; rw [if_pos rfl]
   intro hp
   obtain ⟨a, b⟩ := ht hp
   rw [b]
   exact h.tr r' hr' a
  . rw [if_neg e]; exact h.tr r' hr'
 . rw [hl, hl]
  by_cases ea : a = r <;> by_cases eb : b = r
  . intros; omega
  . subst ea
   rw [if_pos rfl, if_neg eb]
   intro h1 h2 h3
   obtain ⟨p, q⟩ := ht h1
   exact h.one a b ha hb p h2 (q ▸ h3)
  . subst eb
   rw [if_neg ea, if_pos rfl]
   intro h1 h2 h3
   obtain ⟨p, q⟩ := ht h2
   exact h.one a b ha hb h1 p (q ▸ h3)
  . rw [if_neg ea, if_neg eb]; exact h.one a b ha hb
theorem entM_ov (m : List Bool) (n : Nat) (h : m.length = n) : entM m m.length = ovMarks n := by
 unfold entM ovMarks
 apply List.ext_getElem
 . simp [h]
 . intro i h1 h2
  have h1' : i < m.length := by simpa using h1
  rw [List.getElem_map, List.getElem_range, if_pos h1', List.getElem_set]
  by_cases e : i = 0
  . subst e; simp
  . have : ¬ 0 = i := by omega
   rw [if_neg this, List.getElem_replicate]
   simpa using e
theorem markN_get (m : List Bool) (p : List Nat) (oc : List Bool) (i : Nat) (hi : i < m.length) : ∀ k, (markN m p oc k).getD i false = (m.getD i false || (decide (i < k) && oc.getD (p.getD i 0) false))
 | 0 => by simp [markN]
 | k + 1 => by
  unfold markN
  have ih := markN_get m p oc i hi k
  split
  . rename_i ho
   by_cases e : i = k
   . subst e
    rw [getD_setq _ _ _ _ _ (by rw [markN_len]; exact hi), if_pos rfl, ho]
    simp
   . rw [getD_setn _ _ _ _ _ e, ih]
    have : (i < k + 1) = (i < k) := by apply propext; omega
    simp only [this]
  . rename_i ho
   rw [ih]
   by_cases e : i = k
   . subst e
    simp only [Bool.not_eq_true] at ho
    rw [ho]; simp
   . have : (i < k + 1) = (i < k) := by apply propext; omega
    simp only [this]
theorem secAt_nat {y : PRt} (i : Nat) (h : i < y.rt.path.length) : y.secAt (i : Int) = (secs y.rt.path).getD i 0 := by
 unfold PRt.secAt
 rw [if_pos ⟨by omega, by omega⟩, secs_getD, Int.toNat_natCast]
theorem secAt_foot {y : PRt} : y.secAt ((0 : Nat) - 1 : Int) = y.rt.foot := by
 unfold PRt.secAt
 rw [if_neg (by omega)]
theorem mark_eq {L : Lay} {r : Nat} {y : PRt} {x : RLn} {pf : PFr} {f : Fr} (h : LR L r y x) (hli : LI L r x) (hf : pf.occ = f.occ) (hp : x.ph = 116) :
  (y.mark pf).marked = markN x.marks (secs (L.rt r).path) f.occ (secs (L.rt r).path).length := by
 have hm := h.mks hp
 have hl := (hli.ps hp).1
 show y.mkN pf y.marked.length = _
 unfold PRt.mkN
 apply List.ext_getElem
 . rw [markN_len, List.length_map, List.length_range, hm]
 . intro i h1 h2
  have h1' : i < y.marked.length := by simpa using h1
  rw [List.getElem_map, List.getElem_range, if_pos h1']
  have e := markN_get x.marks (secs (L.rt r).path) f.occ i (by rw [<- hm]; exact h1') (secs (L.rt r).path).length
  rw [List.getD_eq_getElem?_getD, List.getElem?_eq_getElem h2] at e
  have e' : (markN x.marks (secs (L.rt r).path) f.occ (secs (L.rt r).path).length)[i] = _ := e
  rw [e']
  have hil : i < (secs (L.rt r).path).length := by rw [secs_length, <- hl, <- hm]; exact h1'
  unfold PRt.mkB
  rw [hm, hf, secAt_nat i (by rw [h.rt, <- secs_length]; exact hil), h.rt, decide_eq_true hil, Bool.true_and]
theorem step_W {B : PBx} {C : RBx} {pf : PFr} {f : Fr} (h : Sim B C) (hi : Inv C) (hf : FrS pf f C.L) {k : Nat} (hk : k < C.L.rts.length) (hp : (C.line k).ph = 119) :
  Sim (B.step1 pf k) (C.step f k) /\ Inv (C.step f k) := by
 have hl := h.lr k hk
 have hli := hi.li k hk
 have hne : (C.line k).ph ≠ 46 := by omega
 have hph : (B.route k).ph = 119 := hl.ph.trans hp
 have hg : (B.route k).gave pf = false := by unfold PRt.gave; rw [if_neg (by omega)]
 have e1 : B.step1 pf k = B.putR k ((B.route k).stepW pf (C.broken k)) := by
  unfold PBx.step1
  rw [hg]
  simp only [Bool.false_eq_true, if_false]
  unfold PRt.step
  rw [if_pos hph, hl.rt, h.broken hi hk]
 have e2 : C.step f k = if C.broken k then C.put k ((C.line k).withP 102)
  else if C.right f k && !C.busy f k then C.put k ⟨103, (C.line k).train, true, (C.line k).marks, (C.line k).gone, (C.line k).count⟩ else C := by
  unfold RBx.step
  rw [if_pos hp]
 rw [e1, e2]
 unfold PRt.stepW
 rw [ready_eq hf hi hk hl.rt]
 have g0 := hli.g0 (by omega)
 by_cases hb : C.broken k = true
 . rw [if_pos hb, if_pos hb]
  exact ⟨h.put hi hk ⟨hl.rt, rfl, fun _ => hl.tr hne, fun _ => hl.be hne, fun _ => hl.fr hne, fun _ => hl.ml hne, fun hh => by simp [RLn.withP] at hh, fun hh => by simp [RLn.withP] at hh, hl.cb, hl.fb, hl.mb⟩,
   hi.put hk ⟨fun _ => g0, fun hh => by simp [RLn.withP] at hh, hli.ct⟩ (fun _ => ⟨hne, rfl⟩)⟩
 . rw [if_neg hb, if_neg hb]
  by_cases hr : (C.right f k && !C.busy f k) = true
  . rw [if_pos hr, if_pos hr]
   exact ⟨h.put hi hk ⟨hl.rt, rfl, fun _ => hl.tr hne, fun _ => rfl, fun _ => hl.fr hne, fun _ => hl.ml hne, fun hh => by simp at hh, fun hh => by simp at hh, hl.cb, hl.fb, hl.mb⟩,
    hi.put hk ⟨fun _ => g0, fun hh => by simp at hh, hli.ct⟩ (fun _ => ⟨hne, rfl⟩)⟩
  . rw [if_neg hr, if_neg hr]
   have e := put_selfq C k (by rw [hi.ll]; exact hk)
   exact ⟨e ▸ h.put hi hk hl, hi⟩
theorem enter_ok {L : Lay} {k : Nat} {y : PRt} {x : RLn} (hl : LR L k y x) (hli : LI L k x) (hne : x.ph ≠ 46) (h116 : x.ph ≠ 116) (ho : RtOK L (L.rt k)) :
  LR L k y.enter { x with marks := ovMarks (L.rt k).path.length, ph := 116 } /\ LI L k { x with marks := ovMarks (L.rt k).path.length, ph := 116 } := by
 have em := entM_ov y.marked _ (hl.ml hne)
 have el : (ovMarks (L.rt k).path.length).length = (L.rt k).path.length := by simp [ovMarks]
 have hpos : 0 < (L.rt k).path.length := List.length_pos_iff.2 ho.ne
 have hp6 := ho.pl
 refine ⟨⟨hl.rt, rfl, fun _ => hl.tr hne, fun _ => hl.be hne, fun _ => hl.fr hne, fun _ => ?_, fun _ => em, fun hh => by simp at hh, hl.cb, hl.fb, ?_⟩, ⟨fun hh => by simp at hh, fun _ => ⟨el, ?_⟩, hli.ct⟩⟩
 . show (entM y.marked y.marked.length).length = _
  rw [em, el]
 . show (entM y.marked y.marked.length).length <= _
  rw [em, el]; omega
 . show x.gone < _
  rw [hli.g0 h116]; exact hpos
theorem in_eq {C : RBx} {pf : PFr} {f : Fr} {y : PRt} (hf : pf.occ = f.occ) {k : Nat} (hy : y.rt = C.L.rt k) (hne : (C.L.rt k).path ≠ []) : pf.occ.getD (y.secAt 0) false = C.inB f k := by
 have hpos : 0 < (C.L.rt k).path.length := List.length_pos_iff.2 hne
 have := secAt_nat (y := y) 0 (by rw [hy]; exact hpos)
 unfold RBx.inB RBx.pth
 rw [hf, show ((0 : Int)) = ((0 : Nat) : Int) from rfl, this, hy]
theorem step_G {B : PBx} {C : RBx} {pf : PFr} {f : Fr} (h : Sim B C) (hi : Inv C) (hf : FrS pf f C.L) {k : Nat} (hk : k < C.L.rts.length) (hp : (C.line k).ph = 103) :
  Sim (B.step1 pf k) (C.step f k) /\ Inv (C.step f k) := by
 have hl := h.lr k hk
 have hli := hi.li k hk
 have ho := hi.rt hk
 have hne : (C.line k).ph ≠ 46 := by omega
 have hph : (B.route k).ph = 103 := hl.ph.trans hp
 have hg : (B.route k).gave pf = false := by unfold PRt.gave; rw [if_neg (by omega)]
 have e1 : B.step1 pf k = B.putR k ((B.route k).stepG pf (C.broken k)) := by
  unfold PBx.step1
  rw [hg]
  simp only [Bool.false_eq_true, if_false]
  unfold PRt.step
  rw [if_neg (by omega), if_pos hph, hl.rt, h.broken hi hk]
 have e2 : C.step f k = if C.inB f k then C.overtaken k
  else if C.broken k then C.put k ((C.line k).withP 102)
  else if !C.right f k || C.busy f k then C.put k ((C.line k).withP 119) else C := by
  unfold RBx.step
  rw [if_neg (by omega), if_pos hp]
 rw [e1, e2]
 unfold PRt.stepG
 rw [ready_eq hf hi hk hl.rt, in_eq hf.occ hl.rt ho.ne]
 have g0 := hli.g0 (by omega)
 by_cases hn : C.inB f k = true
 . rw [if_pos hn, if_pos hn]
  obtain ⟨a, b⟩ := enter_ok hl hli hne (by omega) ho
  exact ⟨h.put hi hk a, hi.put hk b (fun _ => ⟨hne, rfl⟩)⟩
 rw [if_neg hn, if_neg hn]
 by_cases hb : C.broken k = true
 . rw [if_pos hb, if_pos hb]
  exact ⟨h.put hi hk ⟨hl.rt, rfl, fun _ => hl.tr hne, fun _ => hl.be hne, fun _ => hl.fr hne, fun _ => hl.ml hne, fun hh => by simp [RLn.withP] at hh, fun hh => by simp [RLn.withP] at hh, hl.cb, hl.fb, hl.mb⟩,
   hi.put hk ⟨fun _ => g0, fun hh => by simp [RLn.withP] at hh, hli.ct⟩ (fun _ => ⟨hne, rfl⟩)⟩
 . rw [if_neg hb, if_neg hb]
  by_cases hr : (C.right f k && !C.busy f k) = true
  . rw [if_pos hr, if_neg (by simp at hr; simp [hr])]
   have e := put_selfq C k (by rw [hi.ll]; exact hk)
   exact ⟨e ▸ h.put hi hk hl, hi⟩
  . have hr' : (!C.right f k || C.busy f k) = true := by revert hr; cases C.right f k <;> cases C.busy f k <;> decide
   rw [if_neg hr, if_pos hr']
   exact ⟨h.put hi hk ⟨hl.rt, rfl, fun _ => hl.tr hne, fun _ => hl.be hne, fun _ => hl.fr hne, fun _ => hl.ml hne, fun hh => by simp [RLn.withP] at hh, fun hh => by simp [RLn.withP] at hh, hl.cb, hl.fb, hl.mb⟩,
    hi.put hk ⟨fun _ => g0, fun hh => by simp [RLn.withP] at hh, hli.ct⟩ (fun _ => ⟨hne, rfl⟩)⟩
theorem step_P {B : PBx} {C : RBx} {pf : PFr} {f : Fr} (h : Sim B C) (hi : Inv C) (hf : FrS pf f C.L) {k : Nat} (hk : k < C.L.rts.length) (hp : (C.line k).ph = 116) :
  Sim (B.step1 pf k) (C.step f k) /\ Inv (C.step f k) := by
 have hl := h.lr k hk
 have hli := hi.li k hk
 have ho := hi.rt hk
 have hne : (C.line k).ph ≠ 46 := by omega
 have hph : (B.route k).ph = 116 := hl.ph.trans hp
 have hg : (B.route k).gave pf = false := by unfold PRt.gave; rw [if_neg (by omega)]
 have e1 : B.step1 pf k = B.putR k ((B.route k).stepP pf) := by
  unfold PBx.step1
  rw [hg]
  simp only [Bool.false_eq_true, if_false]
  unfold PRt.step
  rw [if_neg (by omega), if_neg (by omega), if_pos hph]
 have e2 : C.step f k = C.passed f k := by
  unfold RBx.step
  rw [if_neg (by omega), if_neg (by omega), if_pos hp]
 have hmk := mark_eq hl hli hf.occ hp
 obtain ⟨hml, hgl⟩ := hli.ps hp
 have hmk' : ((B.route k).mark pf).marked = (C.mkd f k).marks := hmk
 have hlen : (C.mkd f k).marks.length = (C.L.rt k).path.length := by
  show (markN _ _ _ _).length = _
  rw [markN_len]; exact hml
 have hp6 := ho.pl
 have hfr := hl.fr hne
 have hLR : ∀ n, LR C.L k { (B.route k).mark pf with freed := n } { C.mkd f k with gone := n } \/ 1000 < n := by
  intro n
  by_cases hn : 1000 < n
  . exact Or.inr hn
  refine Or.inl ⟨hl.rt, hl.ph, fun _ => hl.tr hne, fun _ => hl.be hne, fun _ => rfl, fun _ => ?_, fun _ => hmk', fun hh => ?_, hl.cb, by show n <= 1000; omega, ?_⟩
  . show ((B.route k).mark pf).marked.length = _
   rw [hmk', hlen]
  . exfalso
   have hh' : (C.line k).ph = 100 := hh
   omega
  . show ((B.route k).mark pf).marked.length <= _
   rw [hmk', hlen]; omega
 have hLI : ∀ n, n < (C.L.rt k).path.length -> LI C.L k { C.mkd f k with gone := n } := by
  intro n hn
  exact ⟨fun hh => absurd hp hh, fun _ => ⟨hlen, hn⟩, hli.ct⟩
 have e0 : ({ (B.route k).mark pf with freed := (B.route k).freed } : PRt) = (B.route k).mark pf := rfl
 have e0' : ({ C.mkd f k with gone := (C.line k).gone } : RLn) = C.mkd f k := rfl
 have stay : Sim (B.putR k ((B.route k).mark pf)) (C.put k (C.mkd f k)) /\ Inv (C.put k (C.mkd f k)) := by
  have a := (hLR (C.line k).gone).resolve_right (by omega)
  have b := hLI (C.line k).gone hgl
  rw [<- hfr, e0, hfr, e0'] at a
  rw [e0'] at b
  exact ⟨h.put hi hk a, hi.put hk b (fun _ => ⟨hne, rfl⟩)⟩
 rw [e1, e2]
 have hpl : (C.pth k).length = (C.L.rt k).path.length := secs_length _
 have hrt : (B.route k).rt = C.L.rt k := hl.rt
 have erel : ((B.route k).mark pf).relB pf = (if (C.mkd f k).marks.getD (C.line k).gone false then (if (C.line k).gone + 1 = (C.L.rt k).path.length then !f.occ.getD ((B.route k).secAt (((C.line k).gone : Int) - 1)) false else !f.occ.getD ((C.pth k).getD (C.line k).gone 0) false && (C.mkd f k).marks.getD ((C.line k).gone + 1) false) else false) := by
  unfold PRt.relB
  rw [hmk']
  show (if (C.mkd f k).marks.getD (B.route k).freed false then (if (B.route k).freed + 1 = (B.route k).rt.path.length then !pf.occ.getD ((B.route k).secAt (((B.route k).freed : Int) - 1)) false else !pf.occ.getD ((B.route k).secAt (B.route k).freed) false && (C.mkd f k).marks.getD ((B.route k).freed + 1) false) else false) = _
  rw [hfr, hrt, hf.occ, secAt_nat _ (by rw [hrt]; exact hgl), hrt]
  rfl
 have eP : (B.route k).stepP pf = if ((B.route k).mark pf).relB pf then (if (C.line k).gone + 1 = (C.L.rt k).path.length then { (B.route k).mark pf with freed := (C.line k).gone + 1, ph := 46 } else { (B.route k).mark pf with freed := (C.line k).gone + 1 }) else (B.route k).mark pf := by
  unfold PRt.stepP
  rw [hfr, hrt]
 by_cases c1 : (C.mkd f k).marks.getD (C.line k).gone false = false
 . have a : C.passed f k = C.put k (C.mkd f k) := by unfold RBx.passed; rw [if_pos c1]
  rw [a, eP, erel, c1]
  simp only [Bool.false_eq_true, if_false]
  exact stay
 have c1' : (C.mkd f k).marks.getD (C.line k).gone false = true := by simpa using c1
 by_cases c2 : (C.line k).gone + 1 = (C.L.rt k).path.length
 . have ef : f.occ.getD ((B.route k).secAt (((C.line k).gone : Int) - 1)) false = f.occ.getD (if 0 < (C.line k).gone then (C.pth k).getD ((C.line k).gone - 1) 0 else (C.L.rt k).foot) false := by
   by_cases c3 : 0 < (C.line k).gone
   . rw [if_pos c3]
    have : ((C.line k).gone : Int) - 1 = (((C.line k).gone - 1 : Nat) : Int) := by omega
    rw [this, secAt_nat _ (by rw [hrt]; omega), hrt]
    rfl
   . rw [if_neg c3]
    have : (C.line k).gone = 0 := by omega
    rw [this, secAt_foot, hrt]
  have er2 : ((B.route k).mark pf).relB pf = !f.occ.getD (if 0 < (C.line k).gone then (C.pth k).getD ((C.line k).gone - 1) 0 else (C.L.rt k).foot) false := by
   rw [erel, if_pos c1', if_pos c2, ef]
  have eC : C.passed f k = if f.occ.getD (if 0 < (C.line k).gone then (C.pth k).getD ((C.line k).gone - 1) 0 else (C.L.rt k).foot) false = true then C.put k (C.mkd f k) else C.put k RLn0 := by
   unfold RBx.passed
   rw [if_neg c1, if_neg (by rw [hpl]; omega)]
  rw [eP, eC, er2, if_pos c2]
  generalize f.occ.getD (if 0 < (C.line k).gone then (C.pth k).getD ((C.line k).gone - 1) 0 else (C.L.rt k).foot) false = q
  cases q with
  | true =>
   simp only [Bool.not_true, Bool.false_eq_true, if_false, if_true]
   exact stay
  | false =>
   simp only [Bool.not_false, Bool.false_eq_true, if_false, if_true]
   refine ⟨h.put hi hk ⟨hl.rt, rfl, fun hh => absurd rfl hh, fun hh => absurd rfl hh, fun hh => absurd rfl hh, fun hh => absurd rfl hh, fun hh => by simp [RLn0] at hh, fun hh => by simp [RLn0] at hh, hl.cb, ?_, ?_⟩, hi.put hk ⟨fun _ => rfl, fun hh => by simp [RLn0] at hh, Nat.zero_le _⟩ (fun hh => absurd rfl hh)⟩
   . show (C.line k).gone + 1 <= 1000
    omega
   . show ((B.route k).mark pf).marked.length <= 1000
    rw [hmk', hlen]; omega
 . have er2 : ((B.route k).mark pf).relB pf = (!f.occ.getD ((C.pth k).getD (C.line k).gone 0) false && (C.mkd f k).marks.getD ((C.line k).gone + 1) false) := by
   rw [erel, if_pos c1', if_neg c2]
  have eC : C.passed f k = if f.occ.getD ((C.pth k).getD (C.line k).gone 0) false = false /\ (C.mkd f k).marks.getD ((C.line k).gone + 1) false = true then C.put k { C.mkd f k with gone := (C.line k).gone + 1 } else C.put k (C.mkd f k) := by
   unfold RBx.passed
   rw [if_neg c1, if_pos (by rw [hpl]; omega)]
  rw [eP, eC, er2, if_neg c2]
  have a := (hLR ((C.line k).gone + 1)).resolve_right (by omega)
  have b := hLI ((C.line k).gone + 1) (by omega)
  generalize f.occ.getD ((C.pth k).getD (C.line k).gone 0) false = q1
  generalize (C.mkd f k).marks.getD ((C.line k).gone + 1) false = q2
  cases q1 <;> cases q2
  . simp only [Bool.not_false, Bool.and_false, Bool.false_eq_true, and_false, if_false]
   exact stay
  . simp only [Bool.not_false, Bool.and_true, and_self, if_true]
   exact ⟨h.put hi hk a, hi.put hk b (fun _ => ⟨hne, rfl⟩)⟩
  . simp only [Bool.not_true, Bool.false_and, Bool.true_eq_false, Bool.false_eq_true, false_and, if_false]
   exact stay
  . simp only [Bool.not_true, Bool.false_and, Bool.true_eq_false, Bool.false_eq_true, false_and, if_false]
   exact stay
theorem step_D {B : PBx} {C : RBx} {pf : PFr} {f : Fr} (h : Sim B C) (hi : Inv C) (hf : FrS pf f C.L) {k : Nat} (hk : k < C.L.rts.length) (hp : (C.line k).ph = 100) :
  Sim (B.step1 pf k) (C.step f k) /\ Inv (C.step f k) := by
 have hl := h.lr k hk
 have hli := hi.li k hk
 have ho := hi.rt hk
 have hne : (C.line k).ph ≠ 46 := by omega
 have hph : (B.route k).ph = 100 := hl.ph.trans hp
 have g0 := hli.g0 (by omega)
 have hct := hl.ct hp
 have hlen : k < C.lines.length := by rw [hi.ll]; exact hk
 have eg : (B.route k).gave pf = if C.inB f k then false else if 0 < (C.line k).count then false else !C.busy f k := by
  unfold PRt.gave
  rw [if_pos hph]
  unfold PRt.gaveD
  rw [in_eq hf.occ hl.rt ho.ne, hct, hl.rt, busy_eq hf]
 have es : (B.route k).step pf (B.anyF (swsOf (B.route k).rt)) = if C.inB f k then (B.route k).enter else if 0 < (C.line k).count then { B.route k with count := (C.line k).count - 1 } else if !C.busy f k then { B.route k with ph := 46 } else B.route k := by
  unfold PRt.step
  rw [if_neg (by omega), if_neg (by omega), if_neg (by omega), if_pos hph]
  unfold PRt.stepD
  rw [in_eq hf.occ hl.rt ho.ne, hct, hl.rt, busy_eq hf, <- hl.rt, <- hct]
 have e2 : C.step f k = if C.inB f k then C.overtaken k
  else if 0 < (C.line k).count then C.put k ⟨(C.line k).ph, (C.line k).train, (C.line k).been, (C.line k).marks, (C.line k).gone, (C.line k).count - 1⟩
  else if !C.busy f k then { C.put k RLn0 with sta := C.sta.set (C.line k).train (C.sta.getD (C.line k).train 0 - 1) } else C := by
  unfold RBx.step
  rw [if_neg (by omega), if_neg (by omega), if_neg (by omega), if_pos hp]
 rw [e2]
 unfold PBx.step1
 rw [eg, es]
 by_cases hn : C.inB f k = true
 . rw [if_pos hn, if_pos hn, if_pos hn]
  simp only [Bool.false_eq_true, if_false]
  obtain ⟨a, b⟩ := enter_ok hl hli hne (by omega) ho
  exact ⟨h.put hi hk a, hi.put hk b (fun _ => ⟨hne, rfl⟩)⟩
 rw [if_neg hn, if_neg hn, if_neg hn]
 by_cases hc : 0 < (C.line k).count
 . rw [if_pos hc, if_pos hc, if_pos hc]
  simp only [Bool.false_eq_true, if_false]
  have := hli.ct
  exact ⟨h.put hi hk ⟨hl.rt, hl.ph, fun _ => hl.tr hne, fun _ => hl.be hne, fun _ => hl.fr hne, fun _ => hl.ml hne, fun hh => absurd (hp.symm.trans hh) (by decide), fun _ => rfl, (by show (C.line k).count - 1 <= 1000; omega), hl.fb, hl.mb⟩,
   hi.put hk ⟨fun _ => g0, fun hh => absurd (hp.symm.trans hh) (by decide), (by show (C.line k).count - 1 <= 1000; omega)⟩ (fun _ => ⟨hne, rfl⟩)⟩
 rw [if_neg hc, if_neg hc, if_neg hc]
 cases hb : C.busy f k with
 | true =>
  simp only [Bool.not_true, Bool.false_eq_true, if_false]
  have e := put_selfq C k hlen
  exact ⟨e ▸ h.put hi hk hl, hi⟩
 | false =>
  simp only [Bool.not_false, if_true]
  have hs := h.put hi hk (y := { B.route k with ph := 46 }) (x := RLn0) ⟨hl.rt, rfl, fun hh => absurd rfl hh, fun hh => absurd rfl hh, fun hh => absurd rfl hh, fun hh => absurd rfl hh, fun hh => by simp [RLn0] at hh, fun hh => by simp [RLn0] at hh, hl.cb, hl.fb, hl.mb⟩
  have hj := hi.put hk (x := RLn0) ⟨fun _ => rfl, fun hh => by simp [RLn0] at hh, Nat.zero_le _⟩ (fun hh => absurd rfl hh)
  obtain ⟨ht1, ht2⟩ := hi.tr k hk hne
  have hget : ∀ t, (C.sta.set (C.line k).train (C.sta.getD (C.line k).train 0 - 1)).getD t 0 = if t = (C.line k).train then C.sta.getD t 0 - 1 else C.sta.getD t 0 := by
   intro t
   rw [getD_setq _ _ _ _ _ (by rw [hi.st]; exact ht1)]
   by_cases e : t = (C.line k).train
   . rw [if_pos e, if_pos e, e]
   . rw [if_neg e, if_neg e]
  have hle : ∀ t, (C.sta.set (C.line k).train (C.sta.getD (C.line k).train 0 - 1)).getD t 0 <= C.sta.getD t 0 := by
   intro t
   rw [hget]
   split <;> omega
  refine ⟨⟨hs.L, hs.rl, hs.lr, hs.sl, hs.sw, hs.lt, ?_, hs.waits⟩, ⟨hj.lay, hj.ll, hj.wl, hj.fl, hj.dl, ?_, ?_, hj.late, hj.li, ?_, hj.one, hj.wq, hj.wn, ?_⟩⟩
  . show B.sta.set (B.route k).train (B.sta.getD (B.route k).train 0 - 1) = C.sta.set (C.line k).train (C.sta.getD (C.line k).train 0 - 1)
   rw [h.sta, hl.tr hne]
  . show (C.sta.set _ _).length = _
   rw [List.length_set]; exact hi.st
  . intro t
   exact Nat.le_trans (hle t) (hi.sj t)
  . intro r hr hrp
   have hrp' : ((C.put k RLn0).line r).ph ≠ 46 := hrp
   have hrk : r ≠ k := by
    intro e
    subst e
    rw [line_putq C r r RLn0 hlen, if_pos rfl] at hrp'
    exact hrp' rfl
   have el : (C.put k RLn0).line r = C.line r := by rw [line_putq C k r RLn0 hlen, if_neg hrk]
   show ((C.put k RLn0).line r).train < _ /\ 1 <= (C.sta.set (C.line k).train (C.sta.getD (C.line k).train 0 - 1)).getD ((C.put k RLn0).line r).train 0
   rw [el] at hrp' ⊢
   obtain ⟨a, b⟩ := hi.tr r hr hrp'
   refine ⟨a, ?_⟩
   rw [hget, if_neg (fun e => hrk (hi.one r k hr hk hrp' hne e))]
   exact b
  . intro t ht
   obtain ⟨a, b⟩ := hi.wt t ht
   exact ⟨a, Nat.lt_of_le_of_lt (hle t) b⟩
theorem Sim.step {B : PBx} {C : RBx} {pf : PFr} {f : Fr} (h : Sim B C) (hi : Inv C) (hf : FrS pf f C.L) {k : Nat} (hk : k < C.L.rts.length) :
  Sim (B.step1 pf k) (C.step f k) /\ Inv (C.step f k) := by
 by_cases h1 : (C.line k).ph = 119
 . exact step_W h hi hf hk h1
 by_cases h2 : (C.line k).ph = 103
 . exact step_G h hi hf hk h2
 by_cases h3 : (C.line k).ph = 116
 . exact step_P h hi hf hk h3
 by_cases h4 : (C.line k).ph = 100
 . exact step_D h hi hf hk h4
 have hl := h.lr k hk
 have e2 : C.step f k = C := by
  unfold RBx.step
  rw [if_neg h1, if_neg h2, if_neg h3, if_neg h4]
 have e1 : B.step1 pf k = B.putR k (B.route k) := by
  have hg : (B.route k).gave pf = false := by unfold PRt.gave; rw [if_neg (by rw [hl.ph]; exact h4)]
  unfold PBx.step1
  rw [hg]
  simp only [Bool.false_eq_true, if_false]
  unfold PRt.step
  rw [if_neg (by rw [hl.ph]; exact h1), if_neg (by rw [hl.ph]; exact h2), if_neg (by rw [hl.ph]; exact h3), if_neg (by rw [hl.ph]; exact h4)]
 rw [e1, e2]
 have e := put_selfq C k (by rw [hi.ll]; exact hk)
 exact ⟨e ▸ h.put hi hk hl, hi⟩
theorem step_L (C : RBx) (f : Fr) (k : Nat) : (C.step f k).L = C.L := by
 unfold RBx.step RBx.passed RBx.overtaken RBx.put
 repeat' split
 all_goals rfl
theorem Sim.stepN {B : PBx} {C : RBx} {pf : PFr} {f : Fr} (h : Sim B C) (hi : Inv C) (hf : FrS pf f C.L) : ∀ k, k <= C.L.rts.length →
  Sim (B.stepN pf k) (C.stepN f k) /\ Inv (C.stepN f k) /\ (C.stepN f k).L = C.L
 | 0, _ => ⟨h, hi, rfl⟩
 | k + 1, hk => by
  obtain ⟨a, b, c⟩ := Sim.stepN h hi hf k (by omega)
  have := a.step b (f := f) (pf := pf) (by rw [c]; exact hf) (k := k) (by rw [c]; omega)
  exact ⟨this.1, this.2, (step_L _ _ _).trans c⟩
theorem Sim.watch1 {B : PBx} {C : RBx} {pf : PFr} {f : Fr} (h : Sim B C) (hi : Inv C) (hf : FrS pf f C.L) {k : Nat} (hk : k < C.L.sw.length) :
  Sim (B.late1 pf k) (C.watch1 f k) /\ Inv (C.watch1 f k) := by
 have hT := hi.lay.T
 have hdl : k < C.late.length := by rw [hi.dl]; exact hk
 have hfl : k < C.failed.length := by rw [hi.fl]; exact hk
 have hsl : k < B.sws.length := by rw [h.sl]; exact hk
 -- setting a late alone
 have inv1 : ∀ n, n < C.L.T -> Inv { C with late := C.late.set k n } := by
  intro n hn
  refine ⟨hi.lay, hi.ll, hi.wl, hi.fl, (by show (C.late.set k n).length = _; rw [List.length_set]; exact hi.dl), hi.st, hi.sj, fun s => ?_, hi.li, hi.tr, hi.one, hi.wq, hi.wn, hi.wt⟩
  show (C.late.set k n).getD s 0 < C.L.T
  rw [getD_setq _ _ _ _ _ hdl]
  split
  . exact hn
  . exact hi.late s
 have inv2 : Inv { C with late := (C.late.set k (C.lateF f k)).set k 0, failed := C.failed.set k true } := by
  refine ⟨hi.lay, hi.ll, hi.wl, (by show (C.failed.set k true).length = _; rw [List.length_set]; exact hi.fl), (by show ((C.late.set k _).set k 0).length = _; rw [List.length_set, List.length_set]; exact hi.dl), hi.st, hi.sj, fun s => ?_, hi.li, hi.tr, hi.one, hi.wq, hi.wn, hi.wt⟩
  show ((C.late.set k _).set k 0).getD s 0 < C.L.T
  rw [getD_setq _ _ _ _ _ (by rw [List.length_set]; exact hdl), getD_setq _ _ _ _ _ hdl]
  by_cases e : s = k
  . rw [if_pos e]; omega
  . rw [if_neg e, if_neg e]; exact hi.late s
 unfold PBx.late1 RBx.watch1
 by_cases hsw : C.L.sw.getD k false = true
 . rw [h.L, if_pos hsw]
  obtain ⟨w1, w2, w3⟩ := h.sw k hk hsw
  have elate : B.lateB pf k = (C.L.sw.getD k false && C.heldB k && !C.failed.getD k false && f.rep.getD k 0 != C.wanted.getD k 0) := by
   unfold PBx.lateB PFr.repAs
   rw [w1, w2, h.heldB hi, hf.rep, hsw]
   have : decide (k < f.rep.length) = true := by rw [hf.pl]; simpa using hk
   rw [this, Bool.true_and, Bool.true_and]
   simp only [bne]
   generalize (f.rep.getD k 0 == C.wanted.getD k 0) = q1
   generalize C.heldB k = q2
   generalize C.failed.getD k false = q3
   revert q1 q2 q3
   decide
  have simS : ∀ (x : PSw) (C' : RBx), C'.L = C.L -> C'.lines = C.lines -> C'.sta = C.sta -> C'.waits = C.waits -> x.late <= 1000 -> x.wanted = C'.wanted.getD k 0 -> x.failed = C'.failed.getD k false -> x.late = C'.late.getD k 0 →
    (∀ s, s ≠ k -> C'.wanted.getD s 0 = C.wanted.getD s 0 /\ C'.failed.getD s false = C.failed.getD s false /\ C'.late.getD s 0 = C.late.getD s 0) -> Sim (B.putS k x) C' := by
   intro x C' c1 c2 c3 c4 c5 c6 c7 c8 c9
   refine ⟨h.L.trans c1.symm, h.rl.trans (by rw [c1]), ?_, (by show (B.sws.set k x).length = _; rw [List.length_set, c1]; exact h.sl), ?_, ?_, h.sta.trans c3.symm, h.waits.trans c4.symm⟩
   . intro r hr
    rw [c1] at hr ⊢
    have : C'.line r = C.line r := by unfold RBx.line; rw [c2]
    rw [this]
    exact h.lr r hr
   . intro s hs hsw'
    rw [sw_putq B k s x hsl]
    by_cases e : s = k
    . subst e
     rw [if_pos rfl]
     exact ⟨c6, c7, c8⟩
    . rw [if_neg e]
     obtain ⟨d1, d2, d3⟩ := c9 s e
     rw [d1, d2, d3]
     rw [c1] at hs hsw'
     exact h.sw s hs hsw'
   . intro s
    rw [sw_putq B k s x hsl]
    split
    . exact c5
    . exact h.lt s
  unfold PSw.tick
  have hlk := hi.late k
  have elF : C.lateF f k = if B.lateB pf k = true then C.late.getD k 0 + 1 else 0 := by
   unfold RBx.lateF
   rw [elate]
  by_cases hb : B.lateB pf k = true
  . rw [if_pos hb] at elF ⊢
   rw [w3]
   by_cases hT2 : C.L.T <= C.late.getD k 0 + 1
   . rw [if_pos hT2, if_pos (by omega)]
    refine ⟨simS _ _ rfl rfl rfl rfl (Nat.zero_le _) w1 ?_ ?_ ?_, inv2⟩
    . show true = (C.failed.set k true).getD k false
     rw [getD_setq _ _ _ _ _ hfl, if_pos rfl]
    . show 0 = ((C.late.set k _).set k 0).getD k 0
     rw [getD_setq _ _ _ _ _ (by rw [List.length_set]; exact hdl), if_pos rfl]
    . intro s e
     refine ⟨rfl, ?_, ?_⟩
     . show (C.failed.set k true).getD s false = _
      rw [getD_setn _ _ _ _ _ e]
     . show ((C.late.set k _).set k 0).getD s 0 = _
      rw [getD_setn _ _ _ _ _ e, getD_setn _ _ _ _ _ e]
   . rw [if_neg hT2, if_neg (by omega)]
    refine ⟨simS _ _ rfl rfl rfl rfl (by show C.late.getD k 0 + 1 <= 1000; omega) w1 w2 ?_ ?_, inv1 _ (by omega)⟩
    . show C.late.getD k 0 + 1 = (C.late.set k _).getD k 0
     rw [getD_setq _ _ _ _ _ hdl, if_pos rfl, elF]
    . intro s e
     refine ⟨rfl, rfl, ?_⟩
     show (C.late.set k _).getD s 0 = _
     rw [getD_setn _ _ _ _ _ e]
  . rw [if_neg hb] at elF
   simp only [hb, Bool.false_eq_true, if_false]
   rw [if_neg (by omega)]
   refine ⟨simS _ _ rfl rfl rfl rfl (Nat.zero_le _) w1 w2 ?_ ?_, inv1 _ (by omega)⟩
   . show 0 = (C.late.set k _).getD k 0
    rw [getD_setq _ _ _ _ _ hdl, if_pos rfl, elF]
   . intro s e
    refine ⟨rfl, rfl, ?_⟩
    show (C.late.set k _).getD s 0 = _
    rw [getD_setn _ _ _ _ _ e]
 . have elF : C.lateF f k = 0 := by
   unfold RBx.lateF
   have : C.L.sw.getD k false = false := by simpa using hsw
   rw [this]; rfl
  rw [h.L, if_neg hsw, if_neg (by omega)]
  refine ⟨⟨h.L, h.rl, h.lr, h.sl, fun s hs hs2 => ?_, h.lt, h.sta, h.waits⟩, inv1 _ (by omega)⟩
  have e : s ≠ k := by intro e; subst e; exact hsw hs2
  show _ /\ _ /\ (B.sw s).late = (C.late.set k _).getD s 0
  rw [getD_setn _ _ _ _ _ e]
  exact h.sw s hs hs2
theorem watch1_L (C : RBx) (f : Fr) (k : Nat) : (C.watch1 f k).L = C.L := by
 unfold RBx.watch1
 split <;> rfl
theorem Sim.watchN {B : PBx} {C : RBx} {pf : PFr} {f : Fr} (h : Sim B C) (hi : Inv C) (hf : FrS pf f C.L) : ∀ k, k <= C.L.sw.length →
  Sim (B.lateN pf k) (C.watchN f k) /\ Inv (C.watchN f k) /\ (C.watchN f k).L = C.L
 | 0, _ => ⟨h, hi, rfl⟩
 | k + 1, hk => by
  obtain ⟨a, b, c⟩ := Sim.watchN h hi hf k (by omega)
  have := a.watch1 b (f := f) (pf := pf) (by rw [c]; exact hf) (k := k) (by rw [c]; omega)
  exact ⟨this.1, this.2, (watch1_L _ _ _).trans c⟩
end Go.Proofs.YtkbpocecbcaiiaaGreatDoor
