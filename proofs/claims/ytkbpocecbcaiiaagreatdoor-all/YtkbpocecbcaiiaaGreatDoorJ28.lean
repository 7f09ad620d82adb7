import Derived.Test.YtkbpocecbcaiiaaGreatDoorJ27
namespace Go.Proofs.YtkbpocecbcaiiaaGreatDoor
open Go.RowKit
def RBx.grantN (C : RBx) (f : Fr) : Nat -> RBx
 | 0 => C
 | k + 1 => (C.grantN f k).grant f (C.waits.getD k 0)
def RBx.servN (C : RBx) (f : Fr) : Nat -> List Nat
 | 0 => []
 | k + 1 => if (C.grantN f k).grantB f (C.waits.getD k 0) then C.servN f k ++ [C.waits.getD k 0] else C.servN f k
def RBx.leftN (C : RBx) (f : Fr) : Nat -> List Nat
 | 0 => []
 | k + 1 => if (C.grantN f k).grantB f (C.waits.getD k 0) then C.leftN f k else C.leftN f k ++ [C.waits.getD k 0]
def RBx.grants (C : RBx) (f : Fr) : RBx := { C.grantN f C.waits.length with waits := C.leftN f C.waits.length }
theorem rgrant_waits (C : RBx) (f : Fr) (t : Nat) : (C.grant f t).waits = C.waits := by
 unfold RBx.grant
 split
 ·unfold RBx.given RBx.put
  exact (rwantN_pres _ _ _).2.2.2.1
 ·rfl
theorem rgrantN_waits (C : RBx) (f : Fr) (k : Nat) : (C.grantN f k).waits = C.waits := by
 induction k with
 | zero => rfl
 | succ k ih => exact (rgrant_waits _ _ _).trans ih
theorem rservN_len (C : RBx) (f : Fr) (k : Nat) : (C.servN f k).length <= k := by
 induction k with
 | zero => exact Nat.le_refl _
 | succ k ih =>
  unfold RBx.servN
  split
  ·simp; omega
  ·omega
theorem rleftN_len (C : RBx) (f : Fr) (k : Nat) : (C.leftN f k).length <= k := by
 induction k with
 | zero => exact Nat.le_refl _
 | succ k ih =>
  unfold RBx.leftN
  split
  ·omega
  ·simp; omega
structure StgR (w wk : World) (l : Nat) (o : Obj) (D Dk P : Nat -> Prop) (g : Nat) (C : RBx) (vfr : Value) (f : Fr) (vq : Value) : Prop where
 rf : RF wk Dk P g C vfr f vq
 from_ : ∀ b, Dk b -> D b \/ (w.heap.size <= b /\ b ≠ l)
 only : Only D w wk
 fr : wk.heap[l]? = some o
theorem StgR.op {w wk wl : World} {l : Nat} {o : Obj} {D Dk P : Nat -> Prop} {g : Nat} {C C' : RBx} {vfr : Value} {f : Fr} {vq vq' : Value} (h : StgR w wk l o D Dk P g C vfr f vq) (hD : ∀ b, D b -> b < w.heap.size) (hl : w.heap.size <= l) (hb : RF wl (growR Dk wk wl) P g C' vfr f vq') (ho : Only Dk wk wl) : StgR w wl l o D (growR Dk wk wl) P g C' vfr f vq' := by
 have hlt := z0f h.fr
 refine ⟨hb, fun b hb => ?_, h.only.farR ho (fun i hi hd => ?_), ?_⟩
 ·rcases hb with h1 | h1
  ·exact h.from_ b h1
  ·have := h.only.size; exact Or.inr ⟨by omega, by omega⟩
 ·rcases h.from_ i hd with h1 | h1
  ·exact h1
  ·omega
 ·rw [ho.block _ hlt (fun hd => by
   rcases h.from_ _ hd with h1 | h1
   ·have := hD _ h1; omega
   ·exact h1.2 rfl)]
  exact h.fr
theorem StgR.below {w wk wl : World} {l : Nat} {o : Obj} {D Dk P : Nat -> Prop} {g : Nat} {C : RBx} {vfr : Value} {f : Fr} {vq : Value} (h : StgR w wk l o D Dk P g C vfr f vq) (hb : Below wk.heap.size wk wl) : StgR w wl l o D Dk P g C vfr f vq :=
 ⟨h.rf.below hb, h.from_, h.only.trans (Only.of_below hb), (hb.block _ (z0f h.fr)).trans h.fr⟩
theorem StgR.grown {w wk wl : World} {l : Nat} {o o2 : Obj} {D Dk P : Nat -> Prop} {g : Nat} {C : RBx} {vfr : Value} {f : Fr} {vq : Value} {row : Option Nat} (h : StgR w wk l o D Dk P g C vfr f vq) (hg : (wk.alloc o2).grownBy wl row) (hrow : ∀ b, row = some b -> ¬ Dk b /\ w.heap.size <= b /\ b ≠ l /\ ¬ P b) : StgR w wl l o D Dk P g C vfr f vq := by
 have ho := z1e hg
 refine ⟨⟨h.rf.box.only ho (fun k hk e => (hrow k e).1 hk), h.rf.frame.only ho (fun k hk e => (hrow k e).2.2.2 hk), h.rf.apart⟩, h.from_, h.only.farR ho (fun i hi e => by have := (hrow i e).2.1; omega), ?_⟩
 rw [ho.block _ (z0f h.fr) (fun e => (hrow _ e).2.2.1 rfl)]
 exact h.fr
def rfrBox (vo vp : Value) (t : ByteArray) : Obj := .cells #[vo, vp, .string t] 163
set_option maxRecDepth 100000 in
set_option maxHeartbeats 8000000 in
theorem rgrants_f (D P : Nat -> Prop) (g : Nat) (C : RBx) (vfr : Value) (f : Fr) (vq : Value) (w : World) (h : RF w D P g C vfr f vq) (hg : ∀ k (hk : k < C.waits.length), GrantOK (C.grantN f k) f C.waits[k]) (hwl : C.waits.length <= 1000) (h9 : ∀ t, t ∈ C.waits -> t < 9) :
  Calls Tryz.prog 102 #[.pointer (some ⟨g, 0, none⟩), vfr] w fun e w' => e = .returned (.string (z09 ((C.servN f C.waits.length).map (49 + ·)))) /\ (∃ vq', RF w' (growR D w w') P g (C.grants f) vfr f vq') /\ Only D w w' := by
 obtain ⟨vo, vp, rfl, ho1, hp1⟩ := h.frame.at
 obtain ⟨ao, co, rfl, -⟩ := SlAt.open ho1
 obtain ⟨ap, cp, rfl, -⟩ := SlAt.open hp1
 have hb0 := z02 w (rfrBox (.slice ao f.occ.length co) (.slice ap f.rep.length cp) f.cmds)
 have HD := zh h.box.lt
 have HPL := zh h.frame.1
 have HAP := zh h.apart
 have HS0 := zh (show StgR w (w.alloc (rfrBox (.slice ao f.occ.length co) (.slice ap f.rep.length cp) f.cmds)) w.heap.size (rfrBox (.slice ao f.occ.length co) (.slice ap f.rep.length cp) f.cmds) D D P g C _ f vq from ⟨h.below hb0, fun b hb => Or.inl hb, Only.of_below hb0, heap_alloc_new _ _⟩)
 obtain ⟨R0, vh0, vr0, vt0, vl0, vw0, vf0, vd0, va0, ms0, hM0, -⟩ := h.box
 obtain ⟨aq, cq, hvq⟩ := z03 hM0.waits
 subst hvq
 obtain ⟨i0, hi0⟩ := info_parts Tryz.infoInt
 have HIB := zh hi0
 obtain ⟨n, hn⟩ : ∃ n, n = C.waits.length := ⟨_, rfl⟩
 have HN := zh hn
 have HGD := zh hg
 have H9 := zh h9
 have kc := Tryz.oneStr
 rw [<- hn] at hwl HS0 ⊢
 clear h ho1 hp1 hb0 hi0 hn hM0 hg h9
 go_enter Tryz.func102, Tryz.ntmps102
 go_wp2
 go_loopw [5, 6, 7] (fun d1 d2 i wr => ∃ k : Nat, ∃ D', i = .int .i64 k /\ k <= n /\ d1 = .string (z09 ((C.servN f k).map (49 + ·))) /\ StgR w wr w.heap.size (rfrBox (.slice ao f.occ.length co) (.slice ap f.rep.length cp) f.cmds) D D' P g (C.grantN f k) (.agg #[.slice ao f.occ.length co, .slice ap f.rep.length cp, .string f.cmds]) f (.slice aq n cq) ∧
   wr.ownsRow (w.heap.size + 1) 3 1 d2 (C.leftN f k).length (intsV (C.leftN f k)) /\ (∀ b, d2.ownBlock = some b -> ¬ D' b)) (fun _ _ i _ => n - (intOf i).toNat)
 case atStart => exact ⟨0, D, rfl, Nat.zero_le _, rfl, uh HS0, World.ownsRow_nil _ _ _ _, fun b hb => (by cases hb)⟩
 case round =>
  clear HS0
  obtain ⟨k, D', rfl, hk, rfl, hS, ho2, hn2⟩ := hrel
  have hwk := rgrantN_waits C f k
  have hl1 := rservN_len C f k
  have hl2 := rleftN_len C f k
  have hsz := z0n ((C.servN f k).map (49 + ·))
  rw [List.length_map] at hsz
  obtain ⟨p, hp⟩ : ∃ p, p = z09 ((C.servN f k).map (49 + ·)) := ⟨_, rfl⟩
  rw [<- hp] at hsz ⊢
  have HP := zh hp
  clear hp
  obtain ⟨⟨y0, y1, y2⟩, -, qf⟩ := tri0 hS.fr
  have hos := hS.only.size
  obtain ⟨a2, c2, hv2⟩ := z03 ho2
  subst hv2
  obtain ⟨R1, vh1, vr1, vt1, vl1, vw1, vf1, vd1, va1, ms1, hM1, hR1, hD1, hO1⟩ := hS.rf.box
  by_cases hlt : k < n
  ·have hkC : k < C.waits.length := by rw [<- uh HN]; exact hlt
   have hrow := hM1.waits
   rw [hwk] at hrow
   obtain ⟨gq, cq', haq, hq1, hq2, hgq⟩ := z0s hrow (by omega)
   simp only [Value.slice.injEq] at haq
   obtain ⟨rfl, -, rfl⟩ := haq
   unfold maxLen at hq2
   rw [<- uh HN] at hrow hq1
   have x0 : wr.cell? ⟨gq, k, none⟩ = some (.int .i64 (C.waits[k] : Nat)) := by
    rw [hrow.cellAt k (by omega)]; simp [intsV, hkC]
   obtain ⟨⟨-, -, -, -, -, -, -, -, q11⟩, -, qg1⟩ := box12 hM1.box
   have HGT := zh (rgrant_f D' P g (C.grantN f k) _ f _ C.waits[k] wr hS.rf (uh HGD k hkC))
   have l1 : (k : Int) < n := by omega
   have l0 : (0 : Int) <= k := by omega
   have hgd0 : C.waits.getD k 0 = C.waits[k] := z0b _ _ _ hkC
   have HNX := zh (And.intro (show C.grantN f (k + 1) = (C.grantN f k).grant f C.waits[k] by rw [<- hgd0]; rfl) (And.intro (show C.servN f (k + 1) = if (C.grantN f k).grantB f C.waits[k] then C.servN f k ++ [C.waits[k]] else C.servN f k by rw [<- hgd0]; rfl) (show C.leftN f (k + 1) = if (C.grantN f k).grantB f C.waits[k] then C.leftN f k else C.leftN f k ++ [C.waits[k]] by rw [<- hgd0]; rfl)))
   have h9t := uh H9 _ (List.getElem_mem hkC)
   have HR := zh (And.intro ho2 hn2)
   have HS := zh hS
   clear hM1 hR1 hD1 hO1 hrow hS ho2 hn2 hgd0 hwk
   obtain ⟨t, ht⟩ : ∃ t, C.waits[k] = t := ⟨_, rfl⟩
   rw [ht] at x0 HNX HGT h9t
   clear ht hkC
   go_wp2_with fail
   refine (uh HGT).mono ?_
   rintro e w1 ⟨rfl, hB1, hO1⟩
   have hS1 := (uh HS).op (uh HD) (Nat.le_refl _) hB1 hO1
   obtain ⟨r2, r4⟩ := uh HR
   have hz1 := hO1.size
   have hc2 : ∀ b, (Value.slice a2 (C.leftN f k).length c2).ownBlock = some b -> ¬ growR D' wr w1 b := fun b hb hh => by
    rcases hh with hh | hh
    ·exact r4 b hb hh
    ·have := (r2.lt b hb).2; omega
   have ho2 := z3t r2 hO1 r4
   have HC := zh hc2
   have HS1 := zh hS1
   clear hB1 hO1 hS1 r2 r4 hc2 x0 y0 y1 y2 HGT HR HS q11
   obtain ⟨m2, hm2⟩ : ∃ m, (C.leftN f k).length = m := ⟨_, rfl⟩
   rw [hm2] at ho2 HC hl2 ⊢
   have HM := zh hm2
   clear hm2
   obtain ⟨bg, hbg⟩ : ∃ b, (C.grantN f k).grantB f t = b := ⟨_, rfl⟩
   rw [hbg] at HNX ⊢
   clear hbg
   cases bg with
   | true =>
    obtain ⟨e1, e2, e3⟩ := uh HNX
    have HE := zh (And.intro e1 (And.intro (show z09 ((C.servN f (k + 1)).map (49 + ·)) = p ++ ⟨#[UInt8.ofNat (49 + t)]⟩ by
     rw [show C.servN f (k + 1) = C.servN f k ++ [t] from e2, List.map_append, uh HP]; exact z10 _ _) (show C.leftN f (k + 1) = C.leftN f k from e3)))
    have HOW := zh ho2
    clear e1 e2 e3 ho2
    have u1 := wrap8 (49 + (t : Int)) (by omega) (by omega)
    have u2 : (49 + (t : Int)).toNat = 49 + t := by omega
    go_wp2
    refine ⟨⟨k + 1, _, by go_num, by omega, ?_, by rw [(uh HE).1]; exact (uh HS1).below (z02 _ _), ?_, uh HC⟩, by simp [intOf]; omega⟩
    ·first | (rw [(uh HE).2.1]; done) | (rw [(uh HE).2.1]; simp; done) | (rw [(uh HE).2.1, u2]; done)
    ·rw [(uh HE).2.2, (uh HM)]; exact (uh HOW).alloc _
   | false =>
    obtain ⟨e1, e2, e3⟩ := uh HNX
    have HE := zh (And.intro e1 (And.intro (show z09 ((C.servN f (k + 1)).map (49 + ·)) = p by rw [uh HP]; exact congrArg (fun l => z09 (l.map (49 + ·))) e2) (show C.leftN f (k + 1) = C.leftN f k ++ [t] from e3)))
    clear e1 e2 e3
    go_wp2_with (at_builtin; refine wpList_append_lies _ rfl _ _ 50 rfl (w.heap.size + 1) 3 i0 (.int .i64 0) 1 8 Tryz.underlying50 (uh HIB).1 (uh HIB).2.1 (uh HIB).2.2.1 (uh HIB).2.2.2 rfl (by decide) (.slice a2 m2 c2) m2 (intsV (C.leftN f k)) rfl (ho2.alloc _) ⟨w1.heap.size, 0, none⟩ 1 1 [.int .i64 (t : Nat)] rfl rfl (z0o _ _ _) (z0a rfl) (by decide) (by unfold maxLen; omega) (by omega) (by simp; omega) _ rfl ?_; intro g4 c4 w4 hown4 hgrow4 hat4 hlt4)
    have hlt1 := (uh HS1).rf.box.lt
    have hrw : ∀ b, (Value.slice a2 m2 c2).ownBlock = some b -> ¬ growR D' wr w1 b /\ w.heap.size <= b /\ b ≠ w.heap.size /\ ¬ P b := fun b hb => by
     have := ho2.lt b hb
     exact ⟨uh HC b hb, by omega, by omega, fun hp => by have := uh HPL b hp; omega⟩
    refine ⟨⟨k + 1, _, by go_num, by omega, by rw [(uh HE).2.1], by rw [(uh HE).1]; exact (uh HS1).grown hgrow4 hrw, ?_, ?_⟩, by simp [intOf]; omega⟩
    ·rw [(uh HE).2.2, List.length_append, uh HM, z0p]; exact hown4
    ·intro b hb
     have e : g4 = b := by simpa [Value.ownBlock] using hb
     subst e
     rcases hat4 with h5 | h5
     ·exact uh HC g4 h5
     ·intro hd; have := hlt1 g4 hd; simp at h5; omega
  ·obtain rfl : k = n := by omega
   have l1 : ¬ (k : Int) < k := by omega
   obtain ⟨⟨q3, q4, q5, q6, q7, q8, q9, q10, q11⟩, ⟨-, -, -, -, -, f11⟩, qg1⟩ := box12 hM1.box
   have hMn := hM1.newWaits (.slice a2 (C.leftN f k).length c2) (C.leftN f k) (z2x ho2 (Nat.zero_le _)) (fun b hb => ⟨fun hRb => hn2 b hb (hR1 b hRb), fun e => hn2 b hb (hO1 b (.inr (.inr (.inr (.inr (.inl e)))))), fun e => hn2 b hb (hO1 b (.inr (.inr (.inr (.inr (.inr (.inl e))))))) ⟩)
   have hgS : D' g := hO1 g (.inl rfl)
   have hlt2 : ∀ b, (Value.slice a2 (C.leftN f k).length c2).ownBlock = some b -> w.heap.size < b /\ b < wr.heap.size := fun b hb => by have := ho2.lt b hb; omega
   have hoD : Only D w (wr.setCell ⟨g, 11, none⟩ (.slice a2 (C.leftN f k).length c2)) := hS.only.farR (G := fun b => b = g) (Only.setCell (F := fun b => b = g) (a := ⟨g, 11, none⟩) rfl _) (fun i hi e => by
    rcases hS.from_ i (by rw [e]; exact hgS) with h5 | h5
    ·exact h5
    ·omega)
   have hfin : (∃ vq', RF (wr.setCell ⟨g, 11, none⟩ (.slice a2 (C.leftN f k).length c2)) (growR D w (wr.setCell ⟨g, 11, none⟩ (.slice a2 (C.leftN f k).length c2))) P g (C.grants f) (.agg #[.slice ao f.occ.length co, .slice ap f.rep.length cp, .string f.cmds]) f vq') /\ Only D w (wr.setCell ⟨g, 11, none⟩ (.slice a2 (C.leftN f k).length c2)) := by
    have hgr : ∀ b, (D' b \/ (Value.slice a2 (C.leftN f k).length c2).ownBlock = some b) -> growR D w (wr.setCell ⟨g, 11, none⟩ (.slice a2 (C.leftN f k).length c2)) b := fun b hb => by
     rcases hb with hb | hb
     ·rcases hS.from_ b hb with h5 | h5
      ·exact Or.inl h5
      ·exact Or.inr ⟨h5.1, by simpa [World.setCell] using hD1 b hb⟩
     ·have := hlt2 b hb
      exact Or.inr ⟨by omega, by simpa [World.setCell] using this.2⟩
    refine ⟨⟨.slice a2 (C.leftN f k).length c2, ⟨⟨R1, vh1, vr1, vt1, vl1, vw1, vf1, vd1, va1, ms1, ?_, fun b hb => hgr b (Or.inl (hR1 b hb)), growR_lt (uh HD) hoD.size, fun b hb => hgr b ?_⟩, ?_, ?_⟩⟩, hoD⟩
    ·unfold RBx.grants
     rw [<- uh HN]
     exact hMn
    ·rcases hb with hb | hb | hb | hb | hb | hb | hb | hb
     ·exact Or.inl (hO1 b (.inl hb))
     ·exact Or.inl (hO1 b (.inr (.inl hb)))
     ·exact Or.inl (hO1 b (.inr (.inr (.inl hb))))
     ·exact Or.inl (hO1 b (.inr (.inr (.inr (.inl hb)))))
     ·exact Or.inl (hO1 b (.inr (.inr (.inr (.inr (.inl hb))))))
     ·exact Or.inl (hO1 b (.inr (.inr (.inr (.inr (.inr (.inl hb)))))))
     ·exact Or.inr hb
     ·exact Or.inl (hO1 b (.inr (.inr (.inr (.inr (.inr (.inr (.inr hb))))))))
    ·exact hS.rf.frame.only (F := fun b => b = g) (Only.setCell (F := fun b => b = g) (a := ⟨g, 11, none⟩) rfl _) (fun b hb e => hS.rf.apart b hb (by rw [e]; exact hgS))
    ·intro b hb hh
     have h5 := uh HPL b hb
     rcases hh with hh | hh
     ·exact uh HAP b hb hh
     ·omega
   have HFIN := zh hfin
   have HPK := zh (uh HP)
   clear hfin hM1 hMn hS ho2 hn2 hR1 hD1 hO1 hgS hoD hlt2 hwk y0 y1 y2 q3 q4 q5 q6 q7 q8 q9 q10
   generalize (C.leftN f k).length = m2 at *
   go_wp2
   go_ret
   exact ⟨congrArg (fun s => Ending.returned (Value.string s)) (uh HPK), uh HFIN⟩
end Go.Proofs.YtkbpocecbcaiiaaGreatDoor
