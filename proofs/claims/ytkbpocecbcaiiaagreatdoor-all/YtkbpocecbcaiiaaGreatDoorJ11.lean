import Derived.Test.YtkbpocecbcaiiaaGreatDoorJ10
namespace Go.Proofs.YtkbpocecbcaiiaaGreatDoor
open Go.RowKit
def FBox (w : World) (l : Nat) (vc vo vp : Value) : Prop := w.heap[l]? = some (.cells #[vc, vo, vp] 77 (0, 0))
def Lay.occL (_L : Lay) (s : ByteArray) (k : Nat) : List Bool := (List.range k).map (fun i => pk s i == 49)
def Lay.repL (L : Lay) (s : ByteArray) (k : Nat) : List Nat := (List.range k).map (L.repF s)
theorem okO_pos {s : ByteArray} {k : Nat} (h : okO s k = true) : k < s.size := by
 apply pk_pos
 unfold okO at h
 simp at h
 omega
set_option maxRecDepth 100000 in
set_option maxHeartbeats 2000000 in
theorem fsections_any (b l : Nat) (v : Value) (L : Lay) (s : ByteArray) (w : World) (hC : FCur w b s 0) (hF : FBox w l (.slice none 0 0) (.slice none 0 0) (.slice none 0 0)) (hL : CLay w v L) (hs : s.size <= 64) (hbl : b ≠ l) :
  Calls Tryz.prog 77 #[.pointer (some ⟨b, 0, none⟩), v, .pointer (some ⟨l, 0, none⟩)] w fun e w' => e = .returned (.bool ((List.range L.sw.length).all (okO s))) /\ G2 w w' b l ∧
   ((List.range L.sw.length).all (okO s) = true -> ∃ vo, FBox w' l (.slice none 0 0) vo (.slice none 0 0) /\ w'.ownsRow w.heap.size 4 1 vo L.sw.length (z0t (L.occL s L.sw.length)) /\ FCur w' b s L.sw.length /\ L.sw.length <= s.size) := by
 obtain ⟨vs, vr, vt, rfl, hS, -, -⟩ := hL
 obtain ⟨a1, d1, rfl, -, hm, -⟩ := SlAt.open hS
 unfold maxLen at hm
 obtain ⟨Z, hZ⟩ : ∃ Z, Z = (List.range L.sw.length).all (okO s) := ⟨_, rfl⟩
 rw [<- hZ]
 have HZ := zh hZ
 have hbw := hC.cells.2.2.2.2
 have hlw := z0f hF
 obtain ⟨i0, hi0⟩ := info_parts Tryz.infoBool
 have HI := zh hi0
 have A := zh (And.intro (hC.gr (z3j (gr_refl w none) (z0i L (.slice a1 L.sw.length d1) vr vt)) (by simp)) (And.intro (show FBox (w.alloc (z0i L (.slice a1 L.sw.length d1) vr vt)) l _ _ _ from (Below.heap_alloc _ _ _ hlw).trans hF) ((G2.refl w b l).alloc (z0i L (.slice a1 L.sw.length d1) vr vt))))
 clear hi0 hS hZ hC hF
 go_enter Tryz.func77, Tryz.ntmps77
 go_wp2
 go_loopw [11] (fun i wr => ∃ k : Nat, ∃ vo, i = .int .i64 k /\ k <= L.sw.length /\ k <= s.size /\ (∀ j, j < k -> okO s j = true) /\ FBox wr l (.slice none 0 0) vo (.slice none 0 0) /\ wr.ownsRow w.heap.size 4 1 vo k (z0t (L.occL s k)) /\ FCur wr b s k /\ G2 w wr b l) (fun i _ => L.sw.length - (intOf i).toNat)
 case atStart => exact ⟨0, _, rfl, Nat.zero_le _, Nat.zero_le _, fun j h => by omega, (uh A).2.1, World.ownsRow_nil _ _ _ _, (uh A).1, (uh A).2.2⟩
 case round =>
  clear A
  obtain ⟨k, vo, rfl, hk, hks, hno, hF, hown, hC, hG⟩ := hrel
  have hsz := hG.2.2.2.1
  by_cases hlt : k < L.sw.length
  ·have l1 : (k : Int) < L.sw.length := by omega
   have H1 := zh (fnext_any b s k wr hC (by omega))
   have HNO := zh hno
   have F := zh (And.intro hF (And.intro hG hC.typed))
   clear hno hF hG hC
   go_wp2_with fail
   refine (uh H1).mono ?_
   rintro e w1 ⟨rfl, hC1, hg1⟩
   have hF1 := z18 (uh F).1 hg1 (Ne.symm hbl)
   have hG1 := (uh F).2.1.gr hg1
   have hown1 := z01 hown (z2q (uh F).2.2 hg1 (by decide))
   have hsz1 := hG1.2.2.2.1
   obtain ⟨⟨y0, y1, y2⟩, ⟨f0, f1, f2⟩, ql⟩ := tri0 hF1
   have HP := zh (show okO s k = (pk s k == 48 || pk s k == 49) from rfl)
   have HOC := zh (show z0t (L.occL s (k + 1)) = z0t (L.occL s k) ++ [.bool (pk s k == 49)] by
    unfold Lay.occL
    rw [List.range_succ, List.map_append]; exact z2h _ _)
   have HNN := zh (show okO s k = true -> ∀ j, j < k + 1 -> okO s j = true by
    intro h j hj
    by_cases hj' : j < k
    ·exact uh HNO j hj'
    ·obtain rfl : j = k := by omega
     exact h)
   have HFL := zh (show okO s k = false -> Z = false by
    intro h; rw [uh HZ]; exact z2c hlt h)
   have HPS := zh (@okO_pos s k)
   have HC1 := zh hC1
   have F1 := zh (And.intro hF1 hG1)
   obtain ⟨av, cv, hvs⟩ := z03 hown1
   subst hvs
   clear hF1 hG1 hg1 hC1 hown H1 F
   obtain ⟨c, hc⟩ : ∃ c, pk s k = c := ⟨_, rfl⟩
   rw [hc] at HP HOC ⊢
   clear hc
   by_cases c48 : c = 48
   ·have hok : okO s k = true := by rw [uh HP, c48]; rfl
    have b1 : ((c : Int) != 48) = false := by simp [c48]
    have b2 : ((c : Int) == 49) = false := by simp [c48]
    have b3 : (c == 49) = false := by simp [c48]
    rw [b3] at HOC
    have hkz := uh HPS hok
    have HN2 := zh (uh HNN hok)
    have HNX := zh (show nx s k = k + 1 by unfold nx; rw [if_pos hkz])
    clear c48 hok b3
    go_wp2_with (at_builtin; refine wpList_append_own _ rfl _ _ 49 rfl w.heap.size 4 i0 (.bool false) 1 1 Tryz.underlying49 (uh HI).1 (uh HI).2.1 (uh HI).2.2.1 (uh HI).2.2.2 rfl (by decide) _ _ _ rfl (hown1.alloc _) ⟨w1.heap.size, 0, none⟩ 1 1 [.bool false] rfl rfl (z0o _ _ _) (z0a rfl) (by unfold maxLen; omega) (by omega) (by simp; omega) ?_; intro v3 w3 hown3 hgrow3 _; have hF3 : FBox w3 l _ _ _ := (z07 hown1 hgrow3 (by decide) _ _ _ (uh F1).1).trans (uh F1).1; have HC3 := zh ((uh HC1).own hown1 hgrow3 (by decide)); have HG3 := zh ((uh F1).2.own (Nat.le_refl _) hown1 hgrow3); obtain ⟨av', cv', hv'⟩ := z03 hown3; subst hv'; clear y0 y1 y2 f0 f1 f2 ql; obtain ⟨⟨y0, y1, y2⟩, ⟨f0, f1, f2⟩, ql⟩ := tri0 hF3; have HF3 := zh hF3; clear hF3)
    refine ⟨⟨k + 1, _, by go_num, by omega, hkz, uh HN2, z08 _ (uh HF3), ?_, ?_, (uh HG3).set _ _⟩, by simp [intOf]; omega⟩
    ·rw [uh HOC]
     exact z2i hown3 l 1 _ ⟨_, _, uh HF3⟩ (by decide)
    ·rw [<- uh HNX]
     exact (uh HC3).setCell l 1 _ hbl
   ·have b1 : ((c : Int) != 48) = true := by simp; omega
    by_cases c49 : c = 49
    ·have hok : okO s k = true := by rw [uh HP, c49]; rfl
     have b2 : ((c : Int) == 49) = true := by simp [c49]
     have b4 : ((c : Int) != 49) = false := by simp [c49]
     have b3 : (c == 49) = true := by simp [c49]
     rw [b3] at HOC
     have hkz := uh HPS hok
     have HN2 := zh (uh HNN hok)
     have HNX := zh (show nx s k = k + 1 by unfold nx; rw [if_pos hkz])
     clear c48 hok b3 c49
     go_wp2_with (at_builtin; refine wpList_append_own _ rfl _ _ 49 rfl w.heap.size 4 i0 (.bool false) 1 1 Tryz.underlying49 (uh HI).1 (uh HI).2.1 (uh HI).2.2.1 (uh HI).2.2.2 rfl (by decide) _ _ _ rfl (hown1.alloc _) ⟨w1.heap.size, 0, none⟩ 1 1 [.bool true] rfl rfl (z0o _ _ _) (z0a rfl) (by unfold maxLen; omega) (by omega) (by simp; omega) ?_; intro v3 w3 hown3 hgrow3 _; have hF3 : FBox w3 l _ _ _ := (z07 hown1 hgrow3 (by decide) _ _ _ (uh F1).1).trans (uh F1).1; have HC3 := zh ((uh HC1).own hown1 hgrow3 (by decide)); have HG3 := zh ((uh F1).2.own (Nat.le_refl _) hown1 hgrow3); obtain ⟨av', cv', hv'⟩ := z03 hown3; subst hv'; clear y0 y1 y2 f0 f1 f2 ql; obtain ⟨⟨y0, y1, y2⟩, ⟨f0, f1, f2⟩, ql⟩ := tri0 hF3; have HF3 := zh hF3; clear hF3)
     refine ⟨⟨k + 1, _, by go_num, by omega, hkz, uh HN2, z08 _ (uh HF3), ?_, ?_, (uh HG3).set _ _⟩, by simp [intOf]; omega⟩
     ·rw [uh HOC]
      exact z2i hown3 l 1 _ ⟨_, _, uh HF3⟩ (by decide)
     ·rw [<- uh HNX]
      exact (uh HC3).setCell l 1 _ hbl
    ·have hok : okO s k = false := by rw [uh HP]; simp [c48, c49]
     have b4 : ((c : Int) != 49) = true := by simp; omega
     have HZ2 := zh (uh HFL hok)
     clear c48 hok c49
     go_wp2
     go_ret
     exact ⟨z04 (uh HZ2).symm, (uh F1).2, fun h => absurd h (by rw [uh HZ2]; simp)⟩
  ·obtain rfl : k = L.sw.length := by omega
   have HZ2 := zh (show Z = true by rw [uh HZ]; exact ar_true hno)
   have F := zh (And.intro hF (And.intro hown (And.intro hC (And.intro hks hG))))
   clear hno hF hown hC hG
   go_wp2
   go_ret
   exact ⟨z04 (uh HZ2).symm, (uh F).2.2.2.2, fun _ => ⟨_, (uh F).1, (uh F).2.1, (uh F).2.2.1, (uh F).2.2.2.1⟩⟩
theorem posR_succ (L : Lay) (k : Nat) (h : k < L.sw.length) : L.posR (k + 1) = L.posR k + if L.sw[k] then 1 else 0 := by
 unfold Lay.posR
 rw [cntT_succ _ _ h]; omega
theorem isRep_pos {s : ByteArray} {p : Nat} (h : isRep (pk s p) = true) : p < s.size := by
 apply pk_pos
 unfold isRep at h
 simp at h
 omega
set_option maxRecDepth 100000 in
set_option maxHeartbeats 2000000 in
theorem fswitches_any (b l : Nat) (v : Value) (L : Lay) (s : ByteArray) (vo : Value) (w : World) (hC : FCur w b s L.sw.length) (hF : FBox w l (.slice none 0 0) vo (.slice none 0 0)) (hL : CLay w v L) (hs : s.size <= 64) (hps : L.sw.length <= s.size) (hbl : b ≠ l) :
  Calls Tryz.prog 78 #[.pointer (some ⟨b, 0, none⟩), v, .pointer (some ⟨l, 0, none⟩)] w fun e w' => e = .returned (.bool ((List.range L.sw.length).all (L.okR s))) /\ G2 w w' b l ∧
   ((List.range L.sw.length).all (L.okR s) = true -> ∃ vp, FBox w' l (.slice none 0 0) vo vp /\ w'.ownsRow w.heap.size 5 1 vp L.sw.length (bytsV (L.repL s L.sw.length)) /\ FCur w' b s L.bgn /\ L.bgn <= s.size) := by
 obtain ⟨vs, vr, vt, rfl, hS, -, -⟩ := hL
 have HS := zh hS
 obtain ⟨a1, d1, rfl, -, hm, -⟩ := SlAt.open hS
 unfold maxLen at hm
 obtain ⟨Z, hZ⟩ : ∃ Z, Z = (List.range L.sw.length).all (L.okR s) := ⟨_, rfl⟩
 rw [<- hZ]
 have HZ := zh hZ
 have hbw := hC.cells.2.2.2.2
 have hlw := z0f hF
 obtain ⟨i0, hi0⟩ := info_parts Tryz.infoByte
 have HI := zh hi0
 have HT := zh (And.intro hC.typed (show Typed w l 77 from ⟨_, _, hF⟩))
 have hp0 : L.posR 0 = L.sw.length := by simp [Lay.posR, cntT]
 have A := zh (And.intro (hC.gr (z3j (gr_refl w none) (z0i L (.slice a1 L.sw.length d1) vr vt)) (by simp)) (And.intro (show FBox (w.alloc (z0i L (.slice a1 L.sw.length d1) vr vt)) l _ _ _ from (Below.heap_alloc _ _ _ hlw).trans hF) (And.intro ((G2.refl w b l).alloc (z0i L (.slice a1 L.sw.length d1) vr vt)) hp0)))
 clear hi0 hS hZ hC hF hp0
 go_enter Tryz.func78, Tryz.ntmps78
 go_wp2
 go_loopw [13] (fun i wr => ∃ k : Nat, ∃ vp, i = .int .i64 k /\ k <= L.sw.length /\ L.posR k <= s.size /\ (∀ j, j < k -> L.okR s j = true) /\ FBox wr l (.slice none 0 0) vo vp /\ wr.ownsRow w.heap.size 5 1 vp k (bytsV (L.repL s k)) /\ FCur wr b s (L.posR k) /\ G2 w wr b l) (fun i _ => L.sw.length - (intOf i).toNat)
 case atStart => exact ⟨0, _, rfl, Nat.zero_le _, by rw [(uh A).2.2.2]; exact hps, fun j h => by omega, (uh A).2.1, World.ownsRow_nil _ _ _ _, by rw [(uh A).2.2.2]; exact (uh A).1, (uh A).2.2.1⟩
 case round =>
  clear A
  obtain ⟨k, vp, rfl, hk, hks, hno, hF, hown, hC, hG⟩ := hrel
  have hsz := hG.2.2.2.1
  by_cases hlt : k < L.sw.length
  ·have l1 : (k : Int) < L.sw.length := by omega
   have l0 : (0 : Int) <= k := by omega
   have H1 := zh (fnext_any b s (L.posR k) wr hC (by omega))
   have HNO := zh hno
   have F := zh (And.intro hF (And.intro hG (And.intro hC.typed hC)))
   obtain ⟨ao', c', he, -, -, s3⟩ := SlAt.open ((uh HS).keep (z2r (uh HT).1 (uh HT).2 hG (by decide) (by decide)))
   obtain ⟨gs, os, hao, hgs, cs, -, hCs, hcs⟩ := s3 k hlt
   simp only [Value.slice.injEq, true_and] at he
   obtain ⟨rfl, rfl⟩ := he
   subst hao
   unfold CBool at hCs
   subst hCs
   have x0 := hcs 0 (by omega)
   simp at x0
   have HOK := zh (show L.okR s k = (!L.sw[k] || isRep (pk s (L.posR k))) by
    unfold Lay.okR; rw [z0b _ _ _ hlt])
   have HRP := zh (show L.repF s k = if L.sw[k] then pk s (L.posR k) else 0 by unfold Lay.repF; rw [z0b _ _ _ hlt])
   have HPR := zh (posR_succ L k hlt)
   have HOC := zh (show bytsV (L.repL s (k + 1)) = bytsV (L.repL s k) ++ [.int .u8 (L.repF s k : Nat)] by
    unfold Lay.repL
    rw [List.range_succ, List.map_append]; exact z1j _ _)
   have HNN := zh (show L.okR s k = true -> ∀ j, j < k + 1 -> L.okR s j = true by
    intro h j hj
    by_cases hj' : j < k
    ·exact uh HNO j hj'
    ·obtain rfl : j = k := by omega
     exact h)
   have HFL := zh (show L.okR s k = false -> Z = false by
    intro h; rw [uh HZ]; exact z2c hlt h)
   clear hno hF hG hC hcs s3
   obtain ⟨av, cv, hvs⟩ := z03 hown
   obtain ⟨hb, hhb⟩ : ∃ hb, L.sw[k] = hb := ⟨_, rfl⟩
   rw [hhb] at x0 HOK HRP HPR
   clear hhb
   cases hb with
   | false =>
    have hok : L.okR s k = true := by rw [uh HOK]; rfl
    have HN2 := zh (uh HNN hok)
    have HR0 := zh (show L.repF s k = 0 by rw [uh HRP]; rfl)
    have HPP := zh (show L.posR (k + 1) = L.posR k by rw [uh HPR]; rfl)
    subst hvs
    obtain ⟨⟨y0, y1, y2⟩, ⟨f0, f1, f2⟩, ql⟩ := tri0 (uh F).1
    clear hok
    go_wp2_with (at_builtin; refine wpList_append_own _ rfl _ _ 75 rfl w.heap.size 5 i0 (.int .u8 0) 1 1 Tryz.underlying75 (uh HI).1 (uh HI).2.1 (uh HI).2.2.1 (uh HI).2.2.2 rfl (by decide) _ _ _ rfl (hown.alloc _) ⟨wr.heap.size, 0, none⟩ 1 1 [.int .u8 0] rfl rfl (z0o _ _ _) (z0a rfl) (by unfold maxLen; omega) (by omega) (by simp; omega) ?_; intro v3 w3 hown3 hgrow3 _; have hF3 : FBox w3 l _ _ _ := (z07 hown hgrow3 (by decide) _ _ _ (uh F).1).trans (uh F).1; have HC3 := zh ((uh F).2.2.2.own hown hgrow3 (by decide)); have HG3 := zh ((uh F).2.1.own (Nat.le_refl _) hown hgrow3); obtain ⟨av', cv', hv'⟩ := z03 hown3; subst hv'; clear y0 y1 y2 f0 f1 f2 ql; obtain ⟨⟨y0, y1, y2⟩, ⟨f0, f1, f2⟩, ql⟩ := tri0 hF3; have HF3 := zh hF3; clear hF3)
    refine ⟨⟨k + 1, _, by go_num, by omega, by rw [uh HPP]; exact hks, uh HN2, z08 _ (uh HF3), ?_, ?_, (uh HG3).set _ _⟩, by simp [intOf]; omega⟩
    ·rw [uh HOC, uh HR0]
     exact z2i hown3 l 2 _ ⟨_, _, uh HF3⟩ (by decide)
    ·rw [uh HPP]
     exact (uh HC3).setCell l 2 _ hbl
   | true =>
    have HR0 := zh (show L.repF s k = pk s (L.posR k) by rw [uh HRP]; rfl)
    have HPP := zh (show L.posR (k + 1) = L.posR k + 1 by rw [uh HPR]; rfl)
    have HO1 := zh (show L.okR s k = isRep (pk s (L.posR k)) by rw [uh HOK]; rfl)
    have HPS := zh (@isRep_pos s (L.posR k))
    go_wp2_with fail
    refine (uh H1).mono ?_
    rintro e w1 ⟨rfl, hC1, hg1⟩
    have hF1 := z18 (uh F).1 hg1 (Ne.symm hbl)
    have hG1 := (uh F).2.1.gr hg1
    have hown1 := z01 hown (z2q (uh F).2.2.1 hg1 (by decide))
    have hsz1 := hG1.2.2.2.1
    obtain ⟨⟨y0, y1, y2⟩, ⟨f0, f1, f2⟩, ql⟩ := tri0 hF1
    have HC1 := zh hC1
    have F1 := zh (And.intro hF1 hG1)
    subst hvs
    clear hF1 hG1 hg1 hC1 hown H1 F x0
    obtain ⟨c, hc⟩ : ∃ c, pk s (L.posR k) = c := ⟨_, rfl⟩
    rw [hc] at HR0 HO1 HPS ⊢
    have hc256 : c < 256 := by rw [<- hc]; exact pk_lt _ _
    clear hc HRP HOK
    have hcase : (c = 43 \/ c = 45 \/ c = 63) \/ (c ≠ 43 /\ c ≠ 45 /\ c ≠ 63) := by omega
    rcases hcase with hcase | ⟨n1, n2, n3⟩
    ·have hir : isRep c = true := by unfold isRep; rcases hcase with rfl | rfl | rfl <;> rfl
     have hok : L.okR s k = true := by rw [uh HO1]; exact hir
     have hkz := uh HPS hir
     have HN2 := zh (uh HNN hok)
     have HNX := zh (show nx s (L.posR k) = L.posR k + 1 by unfold nx; rw [if_pos hkz])
     clear hok hir
     have bcase : (((c : Int) != 43) = false) \/ (((c : Int) != 43) = true /\ ((c : Int) != 45) = false) \/ (((c : Int) != 43) = true /\ ((c : Int) != 45) = true /\ ((c : Int) != 63) = false) := by
      rcases hcase with rfl | rfl | rfl
      ·left; rfl
      ·right; left; exact ⟨rfl, rfl⟩
      ·right; right; exact ⟨rfl, rfl, rfl⟩
     clear hcase
     rcases bcase with b1 | ⟨b1, b2⟩ | ⟨b1, b2, b3⟩
     all_goals
      go_wp2_with (at_builtin; refine wpList_append_own _ rfl _ _ 75 rfl w.heap.size 5 i0 (.int .u8 0) 1 1 Tryz.underlying75 (uh HI).1 (uh HI).2.1 (uh HI).2.2.1 (uh HI).2.2.2 rfl (by decide) _ _ _ rfl (hown1.alloc _) ⟨w1.heap.size, 0, none⟩ 1 1 [.int .u8 (c : Nat)] rfl rfl (z0o _ _ _) (z0a rfl) (by unfold maxLen; omega) (by omega) (by simp; omega) ?_; intro v3 w3 hown3 hgrow3 _; have hF3 : FBox w3 l _ _ _ := (z07 hown1 hgrow3 (by decide) _ _ _ (uh F1).1).trans (uh F1).1; have HC3 := zh ((uh HC1).own hown1 hgrow3 (by decide)); have HG3 := zh ((uh F1).2.own (Nat.le_refl _) hown1 hgrow3); obtain ⟨av', cv', hv'⟩ := z03 hown3; subst hv'; clear y0 y1 y2 f0 f1 f2 ql; obtain ⟨⟨y0, y1, y2⟩, ⟨f0, f1, f2⟩, ql⟩ := tri0 hF3; have HF3 := zh hF3; clear hF3)
      refine ⟨⟨k + 1, _, by go_num, by omega, by rw [uh HPP]; exact hkz, uh HN2, z08 _ (uh HF3), ?_, ?_, (uh HG3).set _ _⟩, by simp [intOf]; omega⟩
      ·rw [uh HOC, uh HR0]
       exact z2i hown3 l 2 _ ⟨_, _, uh HF3⟩ (by decide)
      ·rw [uh HPP, <- uh HNX]
       exact (uh HC3).setCell l 2 _ hbl
    ·have hok : L.okR s k = false := by rw [uh HO1]; unfold isRep; simp [n1, n2, n3]
     have b1 : ((c : Int) != 43) = true := by simp; omega
     have b2 : ((c : Int) != 45) = true := by simp; omega
     have b3 : ((c : Int) != 63) = true := by simp; omega
     have HZ2 := zh (uh HFL hok)
     clear n1 n2 n3 hok
     go_wp2
     go_ret
     exact ⟨z04 (uh HZ2).symm, (uh F1).2, fun h => absurd h (by rw [uh HZ2]; simp)⟩
  ·obtain rfl : k = L.sw.length := by omega
   have HZ2 := zh (show Z = true by rw [uh HZ]; exact ar_true hno)
   have HBG := zh (show L.posR L.sw.length = L.bgn by unfold Lay.posR Lay.bgn; rw [List.take_length])
   have F := zh (And.intro hF (And.intro hown (And.intro hC (And.intro hks hG))))
   clear hno hF hown hC hG
   go_wp2
   go_ret
   exact ⟨z04 (uh HZ2).symm, (uh F).2.2.2.2, fun _ => ⟨_, (uh F).1, (uh F).2.1, by rw [<- uh HBG]; exact (uh F).2.2.1, by rw [<- uh HBG]; exact (uh F).2.2.2.1⟩⟩
def VRt (w : World) (v : Value) (r : Rt) : Prop := ∃ vp vf, v = .agg #[.int .i64 r.foot, vp, vf] /\ Items w vp r.path /\ Items w vf r.flank
theorem VRt.below {w w' : World} {v : Value} {r : Rt} (h : VRt w v r) (k : Below w.heap.size w w') : VRt w' v r := by
 obtain ⟨vp, vf, e, a, b⟩ := h
 exact ⟨vp, vf, e, a.keep (.below k), b.keep (.below k)⟩
set_option maxHeartbeats 400000 in
theorem Last_any (v : Value) (r : Rt) (w : World) (h : VRt w v r) (hne : r.path ≠ []) :
  Calls Tryz.prog 208 #[v] w fun e w' => e = .returned (.int .i64 (lastN r.path : Nat)) /\ Below w.heap.size w w' := by
 obtain ⟨vp, vf, rfl, hP, -⟩ := h
 obtain ⟨ao, cap, rfl, h1, h2, h3⟩ := SlAt.open hP
 unfold maxLen at h2
 have hpos : 0 < r.path.length := List.length_pos_iff.2 hne
 have hlt : r.path.length - 1 < r.path.length := by omega
 obtain ⟨g, off, rfl, hg, cs, -, hC, hc⟩ := h3 _ hlt
 unfold CItem itemV at hC
 subst hC
 have hc0 := hc 0 (by omega)
 simp at hc0
 have hlast : lastN r.path = r.path[r.path.length - 1].1 := by
  unfold lastN
  rw [List.getLastD_eq_getLast?, List.getLast?_eq_getElem?, List.getElem?_eq_getElem hlt]; rfl
 rw [<- hlast] at hc0
 clear hc h3 hP hlast hne
 have hz : ((r.path.length : Int) == 0) = false := beq_eq_false_iff_ne.2 (by omega)
 generalize r.path = p at *
 go_enter Tryz.func208, Tryz.ntmps208
 go_wp2
 go_ret
 exact ⟨rfl, z02 _ _⟩
theorem two_lay {w wr : World} {L : Lay} {vh vr vt : Value} {o2 : Obj} (hb : Below (w.heap.size + 2) ((w.alloc (z0i L vh vr vt)).alloc o2) wr) :
  wr.cell? ⟨w.heap.size, 0, none⟩ = some (.int .i64 L.T) /\ wr.cell? ⟨w.heap.size, 1, none⟩ = some (.int .i64 L.D) /\ wr.cell? ⟨w.heap.size, 2, none⟩ = some (.int .i64 L.Q) ∧
  wr.cell? ⟨w.heap.size, 3, none⟩ = some vh /\ wr.cell? ⟨w.heap.size, 4, none⟩ = some vr /\ wr.cell? ⟨w.heap.size, 5, none⟩ = some vt := by
 have h := blk1 w (z0i L vh vr vt) o2
 exact ⟨z0w hb (by omega) h 0, z0w hb (by omega) h 1, z0w hb (by omega) h 2, z0w hb (by omega) h 3, z0w hb (by omega) h 4, z0w hb (by omega) h 5⟩
theorem two_tri {w wr : World} {o1 : Obj} {c0 c1 c2 : Value} {t : TypeId} (hb : Below (w.heap.size + 2) ((w.alloc o1).alloc (.cells #[c0, c1, c2] t)) wr) :
  (wr.cell? ⟨w.heap.size + 1, 0, none⟩ = some c0 /\ wr.cell? ⟨w.heap.size + 1, 1, none⟩ = some c1 /\ wr.cell? ⟨w.heap.size + 1, 2, none⟩ = some c2) ∧
  (wr.frozen? ⟨w.heap.size + 1, 0, none⟩ = false /\ wr.frozen? ⟨w.heap.size + 1, 1, none⟩ = false /\ wr.frozen? ⟨w.heap.size + 1, 2, none⟩ = false) := by
 have h := blk2 w o1 (.cells #[c0, c1, c2] t)
 exact ⟨⟨z0w hb (by omega) h 0, z0w hb (by omega) h 1, z0w hb (by omega) h 2⟩, ⟨blk_free hb (by omega) h 0, blk_free hb (by omega) h 1, blk_free hb (by omega) h 2⟩⟩
set_option maxHeartbeats 400000 in
theorem RouteAt_any (v : Value) (L : Lay) (x : Nat) (w : World) (h : CLay w v L) :
  Calls Tryz.prog 209 #[v, .int .i64 x] w fun e w' => ∃ (t : Int) (a1 a2 : Option Addr) (n1 n2 c1 c2 : Nat), e = .returned (.tuple #[.agg #[.int .i64 t, .slice a1 n1 c1, .slice a2 n2 c2], .bool (decide (x < L.rts.length))]) ∧
   (x < L.rts.length -> VRt w' (.agg #[.int .i64 t, .slice a1 n1 c1, .slice a2 n2 c2]) (L.rt x)) /\ Below w.heap.size w w' := by
 have HL := zh h
 obtain ⟨vs, vr, vt, rfl, -, hR, -⟩ := h
 obtain ⟨ao, cap, rfl, -, hm, h3⟩ := SlAt.open hR
 have H1 := zh (fun (wz : World) (hz : Below w.heap.size w wz) => HasRoute_any _ L x wz ((uh HL).below hz))
 unfold maxLen at hm
 clear hR
 by_cases hx : x < L.rts.length
 ·obtain ⟨g, off, rfl, hg, cs, -, hC, hc⟩ := h3 x hx
  obtain ⟨vp, vf, rfl, hP, hF⟩ := hC
  have hc0 := hc 0 (by omega)
  have hc1 := hc 1 (by omega)
  have hc2 := hc 2 (by omega)
  simp at hc0 hc1 hc2
  have HV := zh (show VRt w (.agg #[.int .i64 L.rts[x].foot, vp, vf]) L.rts[x] from ⟨_, _, rfl, hP, hF⟩)
  obtain ⟨a1, d1, rfl, -, -, -⟩ := SlAt.open hP
  obtain ⟨a2, d2, rfl, -, -, -⟩ := SlAt.open hF
  rw [show decide (x < L.rts.length) = true from decide_eq_true hx] at H1 ⊢
  rw [rt_eq L x hx]
  have l0 : (0 : Int) <= x := by omega
  have l2 : (x : Int) < L.rts.length := by omega
  clear hc h3 hP hF HL
  generalize L.rts[x] = R at *
  go_enter Tryz.func209, Tryz.ntmps209
  go_wp2_with fail
  refine (uh H1 _ (z06 (Below.refl _ _))).mono ?_
  rintro e w1 ⟨rfl, hb⟩
  have hb2 : Below (w.heap.size + 2) ((w.alloc (z0i L vs (.slice (some ⟨g, off, none⟩) L.rts.length cap) vt)).alloc (.cells #[.int .i64 0, .slice none 0 0, .slice none 0 0] 124)) w1 := hb.mono (by simp)
  obtain ⟨q0, q1, q2, q3, q4, q5⟩ := two_lay hb2
  obtain ⟨⟨z0, z1, z2⟩, ⟨y0, y1, y2⟩⟩ := two_tri hb2
  have hbw := z06 hb2
  rw [<- hbw.cell (p := ⟨g, _, none⟩) hg] at hc0 hc1 hc2
  have hsz := z17 hb2
  have HB := zh hbw
  clear hb hb2 hbw H1
  go_wp2
  refine bodyPost_ret (v := .tuple #[.agg #[.int .i64 R.foot, .slice a1 R.path.length d1, .slice a2 R.flank.length d2], .bool true]) (by simp [results, Tryz.results209, go_sem, z0, z1, z2]) rfl ?_
  have hbf := (((uh HB).setCell (p := ⟨w.heap.size + 1, 0, none⟩) (by simp) (.int .i64 R.foot)).setCell (p := ⟨w.heap.size + 1, 1, none⟩) (by simp) (.slice a1 R.path.length d1)).setCell (p := ⟨w.heap.size + 1, 2, none⟩) (by simp) (.slice a2 R.flank.length d2)
  first
   | exact ⟨_, _, _, _, _, _, _, rfl, (uh HV).below hbf, hbf⟩
   | exact ⟨_, _, _, _, _, _, _, rfl, fun _ => (uh HV).below hbf, hbf⟩
 ·rw [show decide (x < L.rts.length) = false from decide_eq_false hx] at H1 ⊢
  have HX := zh hx
  clear h3 HL hx
  go_enter Tryz.func209, Tryz.ntmps209
  go_wp2_with fail
  refine (uh H1 _ (z06 (Below.refl _ _))).mono ?_
  rintro e w1 ⟨rfl, hb⟩
  have hb2 : Below (w.heap.size + 2) ((w.alloc (z0i L vs (.slice ao L.rts.length cap) vt)).alloc (.cells #[.int .i64 0, .slice none 0 0, .slice none 0 0] 124)) w1 := hb.mono (by simp)
  obtain ⟨⟨z0, z1, z2⟩, ⟨y0, y1, y2⟩⟩ := two_tri hb2
  have hsz := z17 hb2
  have HB := zh (z06 hb2)
  clear hb hb2 H1
  go_wp2
  refine bodyPost_ret (v := .tuple #[.agg #[.int .i64 0, .slice none 0 0, .slice none 0 0], .bool false]) (by simp [results, Tryz.results209, go_sem, z0, z1, z2]) rfl ?_
  have hbf := (((uh HB).setCell (p := ⟨w.heap.size + 1, 0, none⟩) (by simp) (.int .i64 0)).setCell (p := ⟨w.heap.size + 1, 1, none⟩) (by simp) (.slice none 0 0)).setCell (p := ⟨w.heap.size + 1, 2, none⟩) (by simp) (.slice none 0 0)
  exact ⟨_, _, _, _, _, _, _, rfl, fun h => absurd h (uh HX), hbf⟩
set_option maxHeartbeats 1000000 in
theorem isLast_any (v : Value) (L : Lay) (x : Nat) (w : World) (h : CLay w v L) (hp : L.Paths) :
  Calls Tryz.prog 190 #[v, .int .i64 x] w fun e w' => e = .returned (.bool (L.endsB x)) /\ Below w.heap.size w w' := by
 obtain ⟨vs, vr, vt, rfl, -, hR, -⟩ := h
 obtain ⟨ao, cap, rfl, h1, h2, h3⟩ := SlAt.open hR
 unfold maxLen at h2
 generalize hz : L.endsB x = z
 have HZ := zh hz
 have HP := zh hp
 clear hz hp hR
 go_enter Tryz.func190, Tryz.ntmps190
 go_wp2
 go_loopw [10] (fun i wr => ∃ k : Nat, i = .int .i64 k /\ k <= L.rts.length /\ (L.rts.take k).any (fun r => lastN r.path == x) = false /\ Below w.heap.size w wr) (fun i _ => L.rts.length - (intOf i).toNat)
 case atStart => exact ⟨0, rfl, Nat.zero_le _, rfl, z02 _ _⟩
 case round =>
  obtain ⟨k, rfl, hk, hno, hb⟩ := hrel
  have HNO := zh hno
  have HB := zh hb
  have hsz := hb.size
  clear hno
  by_cases hlt : k < L.rts.length
  ·obtain ⟨g, off, hao, hg, cs, -, hC, hc⟩ := h3 k hlt
   subst hao
   obtain ⟨vp, vf, rfl, hP, hF⟩ := hC
   have hc0 := hc 0 (by omega)
   have hc1 := hc 1 (by omega)
   have hc2 := hc 2 (by omega)
   rw [<- hb.cell (p := ⟨g, _, none⟩) hg] at hc0 hc1 hc2
   simp at hc0 hc1 hc2
   have hgw : g < wr.heap.size := by omega
   have HV := zh (show VRt w (.agg #[.int .i64 L.rts[k].foot, vp, vf]) L.rts[k] from ⟨_, _, rfl, hP, hF⟩)
   have HA := zh (z2n (fun r => lastN r.path == x) L.rts k hlt)
   have hmem := zh (List.getElem_mem hlt)
   have HN := zh (uh HP L.rts[k] (List.getElem_mem hlt))
   obtain ⟨a1, d1, rfl, -, -, -⟩ := SlAt.open hP
   obtain ⟨a2, d2, rfl, -, -, -⟩ := SlAt.open hF
   clear hc h3 hP hF hb
   generalize hRR : L.rts[k] = R at *
   clear hRR
   go_wp2_with fail
   refine (Last_any _ R _ ((uh HV).below ((uh HB).alloc hsz _)) (uh HN)).mono ?_
   rintro e w2 ⟨rfl, hb2⟩
   have hb3 := zh (((uh HB).alloc hsz (.cells #[.int .i64 R.foot, .slice a1 R.path.length d1, .slice a2 R.flank.length d2] 124)).trans (hb2.mono (by simp; omega)))
   clear hb2 hc0 hc1 hc2
   by_cases hx : lastN R.path = x
   ·have HZ2 := zh (show z = true by
     rw [<- uh HZ, Lay.endsB, List.any_eq_true]
     exact ⟨R, uh hmem, by simpa using hx⟩)
    have d : ((lastN R.path : Int) == (x : Int)) = true := by simp; omega
    clear hx
    go_wp2
    go_ret
    exact ⟨z04 (uh HZ2).symm, uh hb3⟩
   ·have d : ((lastN R.path : Int) == (x : Int)) = false := by simp; omega
    have HX := zh (show (lastN R.path == x) = false by simpa using hx)
    clear hx
    go_wp2
    exact ⟨⟨k + 1, by go_num, by omega, by rw [uh HA, uh HNO, uh HX]; rfl, uh hb3⟩, by simp [intOf]; omega⟩
  ·have HZ2 := zh (show z = false by rw [<- uh HZ, Lay.endsB, <- uh HNO, List.take_of_length_le (by omega)])
   clear h3
   go_wp2
   go_ret
   exact ⟨z04 (uh HZ2).symm, hb⟩
set_option maxHeartbeats 1000000 in
theorem inFlank_any (v : Value) (L : Lay) (x : Nat) (w : World) (h : CLay w v L) :
  Calls Tryz.prog 191 #[v, .int .i64 x] w fun e w' => e = .returned (.bool (L.flankedB x)) /\ Below w.heap.size w w' := by
 obtain ⟨vs, vr, vt, rfl, -, hR, -⟩ := h
 obtain ⟨ao, cap, rfl, h1, h2, h3⟩ := SlAt.open hR
 unfold maxLen at h2
 generalize hz : L.flankedB x = z
 have HZ := zh hz
 clear hz hR
 go_enter Tryz.func191, Tryz.ntmps191
 go_wp2
 go_loopw [10] (fun i wr => ∃ k : Nat, i = .int .i64 k /\ k <= L.rts.length /\ (L.rts.take k).any (fun r => has r.flank x) = false /\ Below w.heap.size w wr) (fun i _ => L.rts.length - (intOf i).toNat)
 case atStart => exact ⟨0, rfl, Nat.zero_le _, rfl, z02 _ _⟩
 case round =>
  obtain ⟨k, rfl, hk, hno, hb⟩ := hrel
  have HNO := zh hno
  have HB := zh hb
  have hsz := hb.size
  clear hno
  by_cases hlt : k < L.rts.length
  ·obtain ⟨g, off, hao, hg, cs, -, hC, hc⟩ := h3 k hlt
   subst hao
   obtain ⟨vp, vf, rfl, hP, hF⟩ := hC
   have hc0 := hc 0 (by omega)
   have hc1 := hc 1 (by omega)
   have hc2 := hc 2 (by omega)
   rw [<- hb.cell (p := ⟨g, _, none⟩) hg] at hc0 hc1 hc2
   simp at hc0 hc1 hc2
   have hgw : g < wr.heap.size := by omega
   have HFl := zh (show Items w vf L.rts[k].flank from hF)
   have HA := zh (z2n (fun r => has r.flank x) L.rts k hlt)
   have hmem := zh (List.getElem_mem hlt)
   obtain ⟨a1, d1, rfl, -, -, -⟩ := SlAt.open hP
   obtain ⟨a2, d2, rfl, -, -, -⟩ := SlAt.open hF
   clear hc h3 hP hF hb
   generalize hRR : L.rts[k] = R at *
   clear hRR
   go_wp2_with fail
   refine (z3c _ R.flank x _ ((uh HFl).keep (Keeps.below ((uh HB).alloc hsz _)))).mono ?_
   rintro e w2 ⟨rfl, hb2⟩
   have hb3 := zh (((uh HB).alloc hsz (.cells #[.int .i64 R.foot, .slice a1 R.path.length d1, .slice a2 R.flank.length d2] 124)).trans (hb2.mono (by simp; omega)))
   clear hb2 hc0 hc1 hc2
   cases hx : has R.flank x with
   | true =>
    have HZ2 := zh (show z = true by
     rw [<- uh HZ, Lay.flankedB, List.any_eq_true]
     exact ⟨R, uh hmem, hx⟩)
    clear hx
    go_wp2
    go_ret
    exact ⟨z04 (uh HZ2).symm, uh hb3⟩
   | false =>
    have HX := zh hx
    clear hx
    go_wp2
    exact ⟨⟨k + 1, by go_num, by omega, by rw [uh HA, uh HNO, uh HX]; rfl, uh hb3⟩, by simp [intOf]; omega⟩
  ·have HZ2 := zh (show z = false by rw [<- uh HZ, Lay.flankedB, <- uh HNO, List.take_of_length_le (by omega)])
   clear h3
   go_wp2
   go_ret
   exact ⟨z04 (uh HZ2).symm, hb⟩
structure PRt where
 rt : Rt
 ph : Nat
 train : Nat
 been : Bool
 count : Nat
 marked : List Bool
 freed : Nat
structure PSw where
 wanted : Nat
 late : Nat
 failed : Bool
structure PBx where
 L : Lay
 rts : List PRt
 sws : List PSw
 sta : List Nat
 waits : List Nat
def PRt.new (r : Rt) : PRt := ⟨r, 46, 0, false, 0, [], 0⟩
def PSw.new : PSw := ⟨43, 0, false⟩
def swV (x : PSw) : List Value := [.int .u8 x.wanted, .int .i64 x.late, .bool x.failed]
def CPSw (_ : World) (x : PSw) (cs : List Value) : Prop := cs = swV x
def PSws (w : World) (v : Value) (l : List PSw) : Prop := SlAt 121 3 CPSw w v l
theorem PSws.keep {w w' : World} {v : Value} {l : List PSw} (h : PSws w v l) (k : Keeps 121 w w') : PSws w' v l := SlAt.keep h k (fun _ _ h => h)
def CPRt (w : World) (x : PRt) (cs : List Value) : Prop := ∃ vp vf vm, cs = [.int .i64 x.rt.foot, vp, vf, .int .u8 x.ph, .int .i64 x.train, .bool x.been, .int .i64 x.count, vm, .int .i64 x.freed] /\ Items w vp x.rt.path /\ Items w vf x.rt.flank /\ Bools w vm x.marked
theorem CPRt.keep {w w' : World} {x : PRt} {cs : List Value} (h : CPRt w x cs) (k : Keeps 196 w w') (k1 : Keeps 4 w w') : CPRt w' x cs := by
 obtain ⟨vp, vf, vm, e, a, b, c⟩ := h
 exact ⟨vp, vf, vm, e, a.keep k, b.keep k, c.keep k1⟩
def PRts (w : World) (v : Value) (l : List PRt) : Prop := SlAt 126 9 CPRt w v l
theorem PRts.keep {w w' : World} {v : Value} {l : List PRt} (h : PRts w v l) (k : Keeps 126 w w') (k1 : Keeps 196 w w') (k2 : Keeps 4 w w') : PRts w' v l := SlAt.keep h k (fun _ _ h => h.keep k1 k2)
def PBoxAt (w : World) (g : Nat) (B : PBx) : Prop := ∃ vs vr vt vl vw va vq,
 w.heap[g]? = some (.cells #[.int .i64 B.L.T, .int .i64 B.L.D, .int .i64 B.L.Q, vs, vr, vt, vl, vw, va, vq] 87 (0, 0)) ∧
 CLay w (.agg #[.int .i64 B.L.T, .int .i64 B.L.D, .int .i64 B.L.Q, vs, vr, vt]) B.L /\ PRts w vl B.rts /\ PSws w vw B.sws /\ Ints w va B.sta /\ Ints w vq B.waits
theorem PBoxAt.below {w w' : World} {g : Nat} {B : PBx} (h : PBoxAt w g B) (k : Below w.heap.size w w') : PBoxAt w' g B := by
 obtain ⟨vs, vr, vt, vl, vw, va, vq, e, h1, h2, h3, h4, h5⟩ := h
 have kk := fun e => Keeps.below (e := e) k
 exact ⟨vs, vr, vt, vl, vw, va, vq, (k.block g (z0f e)).trans e, h1.below k, h2.keep (kk _) (kk _) (kk _), h3.keep (kk _), h4.keep (kk _), h5.keep (kk _)⟩
theorem box10 {w : World} {g : Nat} {c0 c1 c2 c3 c4 c5 c6 c7 c8 c9 : Value} {e : TypeId} (h : w.heap[g]? = some (.cells #[c0, c1, c2, c3, c4, c5, c6, c7, c8, c9] e (0, 0))) :
  (w.cell? ⟨g, 0, none⟩ = some c0 /\ w.cell? ⟨g, 1, none⟩ = some c1 /\ w.cell? ⟨g, 2, none⟩ = some c2 /\ w.cell? ⟨g, 3, none⟩ = some c3 /\ w.cell? ⟨g, 4, none⟩ = some c4 /\ w.cell? ⟨g, 5, none⟩ = some c5 ∧
   w.cell? ⟨g, 6, none⟩ = some c6 /\ w.cell? ⟨g, 7, none⟩ = some c7 /\ w.cell? ⟨g, 8, none⟩ = some c8 /\ w.cell? ⟨g, 9, none⟩ = some c9) ∧
  (w.frozen? ⟨g, 6, none⟩ = false /\ w.frozen? ⟨g, 7, none⟩ = false /\ w.frozen? ⟨g, 8, none⟩ = false /\ w.frozen? ⟨g, 9, none⟩ = false) /\ g < w.heap.size :=
 ⟨⟨z0c h 0, z0c h 1, z0c h 2, z0c h 3, z0c h 4, z0c h 5, z0c h 6, z0c h 7, z0c h 8, z0c h 9⟩,
  ⟨z0q h 6, z0q h 7, z0q h 8, z0q h 9⟩, z0f h⟩
theorem byts_str {w : World} {v : Value} {l : List Nat} (h : Byts w v l) : (convert 75 9 v).run Tryz.prog w = .ok (.string (z09 l)) w := by
 obtain ⟨ao, cap, rfl, -, -, h3⟩ := h
 have e : z09 l = strOfNums (l.map Int.ofNat) := by simp [z09, strOfNums]
 rcases h3 with h3 | ⟨g, off, cur, fr, rfl, hg, hc⟩
 ·subst h3
  have := @run_convert_bytes_nil Tryz.prog
  first
   | (cases ao with
    | none => exact this w _ _ Tryz.underlying75 Tryz.underlying5 _ _ _ Tryz.underlying9
    | some a => 
     have := run_convert_bytes_string (P := Tryz.prog) w 75 9 5 (some a) 0 cap Tryz.underlying75 Tryz.underlying5 Tryz.underlying9
     rw [show ([] : List Nat).length = 0 from rfl, this, run_bytesToString w a 0 cap [] (by simpa using run_loadCells_list (P := Tryz.prog) w a [] (by simp))]
     rfl)
 ·rw [e]
  refine run_convert_bytes_arg (P := Tryz.prog) w _ _ Tryz.underlying75 Tryz.underlying5 g off l.length cap _ (by simp) (fun i hi => ?_) _ Tryz.underlying9
  obtain ⟨cs, -, hC, hcs⟩ := hc i hi
  have := hcs 0 (by omega)
  unfold CByte at hC
  subst hC
  rw [z13 hg]
  simp at this
  rw [this]
  simp [hi]
def PRt.lockB (x : PRt) (s : Nat) : Bool := x.ph != 46 && ((secs x.rt.path).drop x.freed).contains s
def PBx.lockB (B : PBx) (s r : Nat) : Bool := (B.rts.getD r (PRt.new Rt0)).lockB s
def PBx.lockedBy (B : PBx) (s : Nat) : Option Nat := (List.range B.rts.length).find? (B.lockB s)
def PBx.locksT (B : PBx) : List Nat := (List.range B.L.sw.length).map (fun s => lockC (B.lockedBy s))
def PBx.phasesT (B : PBx) : List Nat := B.rts.map (·.ph)
def PSw.tell (x : PSw) : Nat := if x.failed then 120 else x.wanted
def PBx.swT (B : PBx) (s : Nat) : List Nat := if B.L.sw.getD s false then [(B.sws.getD s PSw.new).tell] else []
def PBx.switchesT (B : PBx) : List Nat := (List.range B.sws.length).flatMap B.swT
def PBx.stateT (B : PBx) : List Nat := B.sta.map (48 + ·)
set_option maxHeartbeats 400000 in
theorem isSet_at (g o ph : Nat) (w : World) (h : w.cell? ⟨g, o + 3, none⟩ = some (.int .u8 ph)) :
  Calls Tryz.prog 121 #[.pointer (some ⟨g, o, none⟩)] w fun e w' => e = .returned (.bool (ph != 46)) /\ w' = w := by
 have hx : ((ph : Int) != 46) = (ph != 46) := by
  rw [Bool.eq_iff_iff]; simp; omega
 go_enter Tryz.func121, Tryz.ntmps121
 go_wp2
 go_ret
 exact ⟨rfl, rfl⟩
set_option maxHeartbeats 1000000 in
theorem locks_at (g o : Nat) (x : PRt) (cs : List Value) (s : Nat) (w : World) (hg : g < w.heap.size) (hc : ∀ j, j < 9 -> w.cell? ⟨g, o + j, none⟩ = cs[j]?) (hC : CPRt w x cs) (_hf : x.freed <= 1000) :
  Calls Tryz.prog 140 #[.pointer (some ⟨g, o, none⟩), .int .i64 s] w fun e w' => e = .returned (.bool (x.lockB s)) /\ Below w.heap.size w w' := by
 obtain ⟨vp, vf, vm, rfl, hP, -, -⟩ := hC
 have c1 := hc 1 (by omega)
 have c3 := hc 3 (by omega)
 have c6 := hc 8 (by omega)
 simp at c1 c3 c6
 have HS := zh (isSet_at g o x.ph w c3)
 unfold PRt.lockB
 obtain ⟨ap, cp, rfl, hpl, hmp, p3⟩ := SlAt.open hP
 unfold maxLen at hmp
 obtain ⟨Z, hZ⟩ : ∃ Z, Z = (x.ph != 46 && ((secs x.rt.path).drop x.freed).contains s) := ⟨_, rfl⟩
 rw [<- hZ]
 have HZ := zh hZ
 have hcd := zh (contains_drop (secs x.rt.path) x.freed s)
 have HSL := zh (show (secs x.rt.path).length = x.rt.path.length by simp [secs])
 have HSG := zh (show ∀ k (h : k < x.rt.path.length) (h' : k < (secs x.rt.path).length), (secs x.rt.path)[k] = x.rt.path[k].1 by intro k h h'; simp [secs])
 generalize x.rt.path = P at *
 generalize x.freed = fr at *
 clear hc hP hZ
 by_cases hph : x.ph = 46
 ·have b0 : (x.ph != 46) = false := by simp [hph]
  have HZ0 := zh (show Z = false by rw [uh HZ, b0]; rfl)
  rw [b0] at HS
  generalize x.ph = ph at *
  clear p3 HZ
  go_enter Tryz.func140, Tryz.ntmps140
  go_wp2_with fail
  refine (uh HS).mono ?_
  rintro e w1 ⟨rfl, rfl⟩
  go_wp2
  go_ret
  exact ⟨z04 (uh HZ0).symm, Below.refl _ _⟩
 ·have b0 : (x.ph != 46) = true := by simp [hph]
  have HZ0 := zh (show Z = ((secs P).drop fr).contains s by rw [uh HZ, b0]; rfl)
  rw [b0] at HS
  generalize x.ph = ph at *
  clear HZ
  go_enter Tryz.func140, Tryz.ntmps140
  go_wp2_with fail
  refine (uh HS).mono ?_
  rintro e w1 ⟨rfl, rfl⟩
  go_wp2
  go_loopw [16] (fun i wr => ∃ k : Nat, i = .int .i64 k /\ k <= P.length /\ (∀ j (h : j < P.length), fr <= j -> j < k -> P[j].1 ≠ s) /\ Below w1.heap.size w1 wr) (fun i _ => P.length - (intOf i).toNat)
  case atStart => exact ⟨0, rfl, Nat.zero_le _, fun j h h1 h2 => by omega, Below.refl _ _⟩
  case round =>
   obtain ⟨k, rfl, hk, hno, hb⟩ := hrel
   have HNO := zh hno
   have HB := zh hb
   have hbs := hb.size
   clear hno
   by_cases hlt : k < P.length
   ·obtain ⟨gp, op, hap, hgp, csp, -, hCp, hcp⟩ := p3 k hlt
    subst hap
    unfold CItem itemV at hCp
    subst hCp
    have x0 := hcp 0 (by omega)
    have x1 := hcp 1 (by omega)
    rw [<- hb.cell (p := ⟨gp, _, none⟩) hgp] at x0 x1
    rw [<- hb.cell (p := ⟨g, _, none⟩) hg] at c6
    simp at x0 x1
    have l1 : (k : Int) < P.length := by omega
    have hgw : g < wr.heap.size := by omega
    have hgpw : gp < wr.heap.size := by omega
    have HNN := zh (show (fr <= k -> P[k].1 ≠ s) -> ∀ j (h : j < P.length), fr <= j -> j < k + 1 -> P[j].1 ≠ s by
     intro hx j h h1 h2
     by_cases hj : j < k
     ·exact uh HNO j h h1 hj
     ·obtain rfl : j = k := by omega
      exact hx h1)
    have HFD := zh (show fr <= k -> P[k].1 = s -> Z = true by
     intro h0 h1
     rw [uh HZ0, (uh hcd).2 ⟨k, by rw [uh HSL]; exact hlt, h0, by rw [uh HSG k hlt]; exact h1⟩])
    clear hcp p3 hb
    generalize P[k].1 = y at *
    generalize P[k].2 = y2 at *
    by_cases hfr : fr <= k
    ·have b1 : decide ((fr : Int) <= k) = true := by simp; omega
     by_cases hys : y = s
     ·have b2 : ((y : Int) == s) = true := by simp [hys]
      have HZ2 := zh (uh HFD hfr hys)
      go_wp2
      go_ret
      exact ⟨z04 (uh HZ2).symm, (uh HB).alloc hbs _⟩
     ·have b2 : ((y : Int) == s) = false := by simp; omega
      go_wp2
      exact ⟨⟨k + 1, by go_num, by omega, uh HNN (fun _ => hys), (uh HB).alloc hbs _⟩, by simp [intOf]; omega⟩
    ·have b1 : decide ((fr : Int) <= k) = false := by simp; omega
     go_wp2
     exact ⟨⟨k + 1, by go_num, by omega, uh HNN (fun h => absurd h hfr), (uh HB).alloc hbs _⟩, by simp [intOf]; omega⟩
   ·have HZ2 := zh (show Z = false by
     rw [uh HZ0, Bool.eq_false_iff]
     intro h
     obtain ⟨j, hj, h1, h2⟩ := (uh hcd).1 h
     have hj' : j < P.length := by rw [<- uh HSL]; exact hj
     rw [uh HSG j hj'] at h2
     exact uh HNO j hj' h1 (by omega) h2)
    have l1 : (P.length : Int) <= k := by omega
    clear p3 hb
    go_wp2
    go_ret
    exact ⟨z04 (uh HZ2).symm, uh HB⟩
theorem flat_set (css : List (List Value)) (sz : Nat) (hl : ∀ c, c ∈ css -> c.length = sz) : ∀ (i j : Nat) (hi : i < css.length) (u : Value), j < sz -> css.flatten.set (i * sz + j) u = (css.set i (css[i].set j u)).flatten := by
 induction css with
 | nil => intro i j hi; simp at hi
 | cons c css ih =>
  intro i j hi u hj
  have hc := hl c (by simp)
  cases i with
  | zero => simp; rw [List.set_append_left _ _ (by omega)]
  | succ i =>
   have := ih (fun c hc => hl c (List.mem_cons_of_mem _ hc)) i j (by simpa using hi) u hj
   simp only [List.flatten_cons, List.set_cons_succ, List.getElem_cons_succ]
   rw [List.set_append_right _ _ (by rw [hc, Nat.succ_mul]; omega), hc, <- this]
   congr 2
   rw [Nat.succ_mul]; omega
theorem lnsV_set (l : List RLn) (ms : List Value) (r : Nat) (x : RLn) (m : Value) : lnsV (l.set r x) (ms.set r m) = (lnsV l ms).set r (lnV x m) := by
 unfold lnsV
 apply List.ext_getElem
 ·simp
 ·intro i h1 h2
  by_cases hi : r = i
  ·subst hi; simp
  ·simp [List.getElem_set_ne hi]
theorem z1s {α : Type} (l : List α) (r : Nat) (h : r < l.length) : l.set r l[r] = l := by simp
theorem RM.setLn {w : World} {R : Nat -> Prop} {g : Nat} {C : RBx} {vh vr vt vw vf vd va vq : Value} {ms : List Value} {gl n cap : Nat} (h : RM w R g C vh vr vt (.slice (some ⟨gl, 0, none⟩) n cap) vw vf vd va vq ms) (hn : n = C.lines.length)
  (r : Nat) (hr : r < C.lines.length) (hrm : r < ms.length) (x : RLn) (j : Nat) (u : Value) (hj : j < 6) (hx : lnV x ms[r] = (lnV C.lines[r] ms[r]).set j u) (hm : x.marks = C.lines[r].marks) :
  RM (w.setCell ⟨gl, r * 6 + j, none⟩ u) R g { C with lines := C.lines.set r x } vh vr vt (.slice (some ⟨gl, 0, none⟩) n cap) vw vf vd va vq ms := by
 subst hn
 have hT := z0g h.lines (k := gl) rfl
 have kk := fun e (n2 : 161 ≠ e) => Keeps.setCell ⟨gl, r * 6 + j, none⟩ u hT n2
 refine { h with box := ?_, plan := ?_, lines := ?_, mlen := ?_, marks := ?_, wanted := ?_, failed := ?_, late := ?_, sta := ?_, waits := ?_ }
 ·exact (kk _ (by decide) _ _ _ h.box).trans h.box
 ·exact h.plan.same (z0d (h.out gl (.inr (.inl rfl)))) (by simp [World.setCell])
 ·have h1 := (h.lines.stored (r * 6 + j) u).1
  have hlen := lnsV_len _ _ h.mlen
  rw [flat_set _ 6 (z36 _ _) r j (by omega) u hj, z3k _ _ r (by omega) hr hrm, <- hx, <- lnsV_set, z1s ms r hrm] at h1
  simpa using h1
 ·simpa using h.mlen
 ·intro i a b
  have b' : i < C.lines.length := by simpa using b
  have := z01 (h.marks i a b') (kk _ (by decide))
  by_cases hi : r = i
  ·subst hi
   simpa [hm] using this
  ·simpa [List.getElem_set_ne hi] using this
 ·exact z01 h.wanted (kk _ (by decide))
 ·exact z01 h.failed (kk _ (by decide))
 ·exact z01 h.late (kk _ (by decide))
 ·exact z01 h.sta (kk _ (by decide))
 ·exact z01 h.waits (kk _ (by decide))
theorem RM.setMk {w : World} {R : Nat -> Prop} {g : Nat} {C : RBx} {vh vr vt vw vf vd va vq : Value} {ms : List Value} {gl n cap : Nat} (h : RM w R g C vh vr vt (.slice (some ⟨gl, 0, none⟩) n cap) vw vf vd va vq ms) (hn : n = C.lines.length)
  (r : Nat) (hr : r < C.lines.length) (hrm : r < ms.length) (m : Value) (bs : List Bool) (hm : w.ownsRow 0 4 1 m bs.length (z0t bs))
  (hR : ∀ b, m.ownBlock = some b -> ¬ R b /\ vf.ownBlock ≠ some b /\ ∀ i (hi : i < ms.length), i ≠ r -> ms[i].ownBlock ≠ some b) :
  RM (w.setCell ⟨gl, r * 6 + 3, none⟩ m) R g { C with lines := C.lines.set r { C.lines[r] with marks := bs } } vh vr vt (.slice (some ⟨gl, 0, none⟩) n cap) vw vf vd va vq (ms.set r m) := by
 subst hn
 have hT := z0g h.lines (k := gl) rfl
 have kk := fun e (n2 : 161 ≠ e) => Keeps.setCell ⟨gl, r * 6 + 3, none⟩ m hT n2
 refine { box := ?_, plan := ?_, lines := ?_, mlen := ?_, marks := ?_, wanted := ?_, failed := ?_, late := ?_, sta := ?_, waits := ?_, sfm := ?_, smm := ?_, sda := h.sda, sdq := h.sdq, saq := h.saq, out := ?_ }
 ·exact (kk _ (by decide) _ _ _ h.box).trans h.box
 ·exact h.plan.same (z0d (h.out gl (.inr (.inl rfl)))) (by simp [World.setCell])
 ·have h1 := (h.lines.stored (r * 6 + 3) m).1
  have hlen := lnsV_len _ _ h.mlen
  rw [flat_set _ 6 (z36 _ _) r 3 (by omega) m (by omega), z3k _ _ r (by omega) hr hrm] at h1
  have e : (lnV C.lines[r] ms[r]).set 3 m = lnV { C.lines[r] with marks := bs } m := rfl
  rw [e, <- lnsV_set] at h1
  simpa using h1
 ·simpa using h.mlen
 ·intro i a b
  have a' : i < ms.length := by simpa using a
  have b' : i < C.lines.length := by simpa using b
  by_cases hi : r = i
  ·subst hi
   simpa using z01 hm (kk _ (by decide))
  ·simpa [List.getElem_set_ne hi] using z01 (h.marks i a' b') (kk _ (by decide))
 ·exact z01 h.wanted (kk _ (by decide))
 ·exact z01 h.failed (kk _ (by decide))
 ·exact z01 h.late (kk _ (by decide))
 ·exact z01 h.sta (kk _ (by decide))
 ·exact z01 h.waits (kk _ (by decide))
 ·intro m' hm' b hb
  rcases List.mem_or_eq_of_mem_set hm' with h1 | h1
  ·exact h.sfm m' h1 b hb
  ·subst h1; exact (hR b hb).2.1
 ·intro i j hi hj hij b hb
  have hi' : i < ms.length := by simpa using hi
  have hj' : j < ms.length := by simpa using hj
  by_cases h1 : r = i
  ·subst h1
   rw [List.getElem_set_ne hij]
   simp only [List.getElem_set_self] at hb
   exact (hR b hb).2.2 j hj' (fun e => hij e.symm)
  ·rw [List.getElem_set_ne h1] at hb
   by_cases h2 : r = j
   ·subst h2
    simp only [List.getElem_set_self]
    intro hc
    exact (hR b hc).2.2 i hi' (fun e => h1 e.symm) hb
   ·rw [List.getElem_set_ne h2]
    exact h.smm i j hi' hj' hij b hb
 ·intro b hb
  rcases hb with hb | hb | hb | hb | hb | hb | hb | ⟨m', hm', hb⟩
  ·exact h.out b (.inl hb)
  ·exact h.out b (.inr (.inl hb))
  ·exact h.out b (.inr (.inr (.inl hb)))
  ·exact h.out b (.inr (.inr (.inr (.inl hb))))
  ·exact h.out b (.inr (.inr (.inr (.inr (.inl hb)))))
  ·exact h.out b (.inr (.inr (.inr (.inr (.inr (.inl hb))))))
  ·exact h.out b (.inr (.inr (.inr (.inr (.inr (.inr (.inl hb)))))))
  ·rcases List.mem_or_eq_of_mem_set hm' with h1 | h1
   ·exact h.out b (.inr (.inr (.inr (.inr (.inr (.inr (.inr ⟨m', h1, hb⟩)))))))
   ·subst h1; exact (hR b hb).1
theorem RM.setM1 {w : World} {R : Nat -> Prop} {g : Nat} {C : RBx} {vh vr vt vl vw vf vd va vq : Value} {ms : List Value} (h : RM w R g C vh vr vt vl vw vf vd va vq ms)
  (r : Nat) (hr : r < C.lines.length) (hrm : r < ms.length) {gm cap : Nat} (hms : ms[r] = .slice (some ⟨gm, 0, none⟩) C.lines[r].marks.length cap) (i : Nat) (x : Bool) :
  RM (w.setCell ⟨gm, i, none⟩ (.bool x)) R g { C with lines := C.lines.set r { C.lines[r] with marks := C.lines[r].marks.set i x } } vh vr vt vl vw vf vd va vq ms := by
 have hrow := h.marks r hrm hr
 rw [hms] at hrow
 have hT := z0g hrow (k := gm) rfl
 have kk := fun e (n2 : 4 ≠ e) => Keeps.setCell ⟨gm, i, none⟩ (.bool x) hT n2
 have hmem : ms[r] ∈ ms := List.getElem_mem hrm
 have hob : ms[r].ownBlock = some gm := by rw [hms]; rfl
 refine { h with box := ?_, plan := ?_, lines := ?_, mlen := ?_, marks := ?_, wanted := ?_, failed := ?_, late := ?_, sta := ?_, waits := ?_ }
 ·exact (kk _ (by decide) _ _ _ h.box).trans h.box
 ·exact h.plan.same (z0d (h.out gm (.inr (.inr (.inr (.inr (.inr (.inr (.inr ⟨_, hmem, hob⟩))))))))) (by simp [World.setCell])
 ·have h1 := z01 h.lines (kk _ (by decide))
  have e : lnsV (C.lines.set r { C.lines[r] with marks := C.lines[r].marks.set i x }) ms = lnsV C.lines ms := by
   have := lnsV_set C.lines ms r { C.lines[r] with marks := C.lines[r].marks.set i x } ms[r]
   rw [z1s ms r hrm] at this
   rw [this]
   have hlen := lnsV_len _ _ h.mlen
   have e2 : lnV { C.lines[r] with marks := C.lines[r].marks.set i x } ms[r] = (lnsV C.lines ms)[r]'(by omega) := by rw [z3k _ _ r (by omega) hr hrm]; rfl
   rw [e2, z1s]
  rw [e]
  simpa using h1
 ·simpa using h.mlen
 ·intro k a b
  have b' : k < C.lines.length := by simpa using b
  by_cases hk : r = k
  ·subst hk
   have := (hrow.stored i (.bool x)).1
   rw [z3r] at this
   rw [hms]
   simpa using this
  ·have := z1w (a := ⟨gm, i, none⟩) (h.marks k a b') (h.smm r k hrm a hk gm hob) (.bool x)
   simpa [List.getElem_set_ne hk] using this
 ·exact z01 h.wanted (kk _ (by decide))
 ·exact z1w h.failed (h.sfm _ hmem gm hob) _
 ·exact z01 h.late (kk _ (by decide))
 ·exact z01 h.sta (kk _ (by decide))
 ·exact z01 h.waits (kk _ (by decide))
end Go.Proofs.YtkbpocecbcaiiaaGreatDoor
