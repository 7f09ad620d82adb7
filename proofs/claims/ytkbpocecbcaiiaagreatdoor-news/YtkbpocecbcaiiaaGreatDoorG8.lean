import Derived.Test.YtkbpocecbcaiiaaGreatDoorG7
/-
  THE WALK OVER plan's cursor: layout.
-/
namespace Go.Proofs.YtkbpocecbcaiiaaGreatDoor
open Go.RowKit

/-- a plan.Layout. -/
def CLay (w : World) (v : Value) (L : Lay) : Prop := ∃ vs vr vt, v = .agg #[.int .i64 L.T, .int .i64 L.D, .int .i64 L.Q, vs, vr, vt] ∧ Bools w vs L.sw ∧ Rts w vr L.rts ∧ Tns w vt L.tns
theorem CLay.below {w w' : World} {v : Value} {L : Lay} (h : CLay w v L) (k : Below w.heap.size w w') : CLay w' v L := by
  obtain ⟨vs, vr, vt, e, a, b, c⟩ := h
  exact ⟨vs, vr, vt, e, a.keep (.below k), b.keep (.below k) (.below k), c.keep (.below k) (.below k)⟩
theorem CLay.keep {w w' : World} {v : Value} {L : Lay} (h : CLay w v L) (k : ∀ e, 83 ≠ e → Keeps e w w') : CLay w' v L := by
  obtain ⟨vs, vr, vt, e, a, b, c⟩ := h
  exact ⟨vs, vr, vt, e, a.keep (k _ (by decide)), b.keep (k _ (by decide)) (k _ (by decide)), c.keep (k _ (by decide)) (k _ (by decide))⟩

/-- a layout, from its head on: is it one, where it ends, what it says. -/
def layL (s : ByteArray) : Bool × Nat × Lay :=
  if timesN s 0 ≠ 3 then (false, timesN s 0, ⟨0, 0, 0, [], [], []⟩)
  else if (pk s 3 == 47) = false then (false, 3, ⟨0, 0, 0, [], [], []⟩)
  else if (secL s 300 4).1.length = 0 then (false, (secL s 300 4).2, ⟨0, 0, 0, [], [], []⟩)
  else if (pk s (secL s 300 4).2 == 47) = false then (false, (secL s 300 4).2, ⟨0, 0, 0, [], [], []⟩)
  else if (rtsL s 300 ((secL s 300 4).2 + 1)).1 = false then (false, (rtsL s 300 ((secL s 300 4).2 + 1)).2.1, ⟨0, 0, 0, [], [], []⟩)
  else if (pk s (rtsL s 300 ((secL s 300 4).2 + 1)).2.1 == 47) = false then (false, (rtsL s 300 ((secL s 300 4).2 + 1)).2.1, ⟨0, 0, 0, [], [], []⟩)
  else ((tnsL s 300 ((rtsL s 300 ((secL s 300 4).2 + 1)).2.1 + 1)).1, (tnsL s 300 ((rtsL s 300 ((secL s 300 4).2 + 1)).2.1 + 1)).2.1,
    ⟨pk s 0 - 48, pk s 1 - 48, pk s 2 - 48, (secL s 300 4).1, (rtsL s 300 ((secL s 300 4).2 + 1)).2.2, (tnsL s 300 ((rtsL s 300 ((secL s 300 4).2 + 1)).2.1 + 1)).2.2⟩)

def zeroLay : Obj := .cells #[.int .i64 0, .int .i64 0, .int .i64 0, .slice none 0 0, .slice none 0 0, .slice none 0 0] 83
theorem g2_blk {w w' : World} {b l g : Nat} {o : Obj} (h : w.heap[g]? = some o) (hg : G2 w w' b l) (n1 : g ≠ b) (n2 : g ≠ l) : w'.heap[g]? = some o := by
  rw [hg.2.2.2.2 g (blk_lt h) n1 n2]; exact h
theorem g2_keeps {w w' : World} {b l : Nat} {e e1 e2 : TypeId} (hb : Typed w b e1) (hl : Typed w l e2) (hg : G2 w w' b l) (n1 : e1 ≠ e) (n2 : e2 ≠ e) : Keeps e w w' := by
  intro g cur fr h
  refine hg.2.2.2.2 g (blk_lt h) ?_ ?_
  · intro e'; subst e'
    obtain ⟨c, f, h'⟩ := hb
    rw [h] at h'; simp at h'; exact n1 h'.2.1.symm
  · intro e'; subst e'
    obtain ⟨c, f, h'⟩ := hl
    rw [h] at h'; simp at h'; exact n2 h'.2.1.symm
theorem g2_gr {w w' : World} {b l : Nat} (h : G2 w w' b l) (hl : w.heap.size ≤ l) : w.grownBy w' (some b) :=
  ⟨h.1, h.2.1, h.2.2.1, h.2.2.2.1, fun k hk hn => h.2.2.2.2 k hk (by simpa using hn) (by omega)⟩
theorem g2_of_gr {w w' : World} {b l : Nat} (h : w.grownBy w' (some b)) : G2 w w' b l := ⟨h.os, h.tape, h.output, h.size, fun k hk n1 _ => h.block k hk (by simpa using n1)⟩
/-- midway: the result's block is as it was, the layout's block holds this, the cursor stands there. -/
def LMid (w wr : World) (b : Nat) (s : ByteArray) (p : Nat) (t d q : Int) (v1 v2 v3 : Value) : Prop :=
  wr.heap[w.heap.size]? = some zeroLay ∧ LCell wr (w.heap.size + 1) (.int .i64 t) (.int .i64 d) (.int .i64 q) v1 v2 v3 ∧ Cur wr b s p ∧ p ≤ s.size ∧ G2 w wr b (w.heap.size + 1)
theorem LMid.take {w wr w1 : World} {b : Nat} {s : ByteArray} {p p' : Nat} {t d q : Int} {v1 v2 v3 : Value} (h : LMid w wr b s p t d q v1 v2 v3) (hb : b < w.heap.size) (hc : Cur w1 b s p') (hp : p' ≤ s.size) (hg : wr.grownBy w1 (some b)) : LMid w w1 b s p' t d q v1 v2 v3 :=
  ⟨blk_gr h.1 hg (by omega), blk_gr h.2.1 hg (by omega), hc, hp, h.2.2.2.2.gr hg⟩
theorem LMid.step {w wr w1 : World} {b : Nat} {s : ByteArray} {p p' : Nat} {t d q t' d' q' : Int} {v1 v2 v3 v1' v2' v3' : Value} (h : LMid w wr b s p t d q v1 v2 v3) (hb : b < w.heap.size) (hl : LCell w1 (w.heap.size + 1) (.int .i64 t') (.int .i64 d') (.int .i64 q') v1' v2' v3') (hc : Cur w1 b s p') (hp : p' ≤ s.size) (hg : G2 wr w1 b (w.heap.size + 1)) : LMid w w1 b s p' t' d' q' v1' v2' v3' :=
  ⟨g2_blk h.1 hg (by omega) (by omega), hl, hc, hp, h.2.2.2.2.trans hg⟩
theorem LMid.keeps {w wr w1 : World} {b : Nat} {s : ByteArray} {p : Nat} {t d q : Int} {v1 v2 v3 : Value} {e : TypeId} (h : LMid w wr b s p t d q v1 v2 v3) (hg : G2 wr w1 b (w.heap.size + 1)) (n1 : 211 ≠ e) (n2 : 83 ≠ e) : Keeps e wr w1 :=
  g2_keeps h.2.2.1.typed ⟨_, _, h.2.1⟩ hg n1 n2
/-- the layout handed back. -/
theorem LMid.fin {w wr : World} {b : Nat} {s : ByteArray} {p : Nat} {t d q : Int} {v1 v2 v3 : Value} (h : LMid w wr b s p t d q v1 v2 v3) (hb : b < w.heap.size) (u0 u1 u2 u3 u4 u5 : Value) :
    Cur ((((((wr.setCell ⟨w.heap.size, 0, none⟩ u0).setCell ⟨w.heap.size, 1, none⟩ u1).setCell ⟨w.heap.size, 2, none⟩ u2).setCell ⟨w.heap.size, 3, none⟩ u3).setCell ⟨w.heap.size, 4, none⟩ u4).setCell ⟨w.heap.size, 5, none⟩ u5) b s p ∧
    w.grownBy ((((((wr.setCell ⟨w.heap.size, 0, none⟩ u0).setCell ⟨w.heap.size, 1, none⟩ u1).setCell ⟨w.heap.size, 2, none⟩ u2).setCell ⟨w.heap.size, 3, none⟩ u3).setCell ⟨w.heap.size, 4, none⟩ u4).setCell ⟨w.heap.size, 5, none⟩ u5) (some b) := by
  have n : b ≠ w.heap.size := by omega
  refine ⟨(((((h.2.2.1.setCell _ _ _ n).setCell _ _ _ n).setCell _ _ _ n).setCell _ _ _ n).setCell _ _ _ n).setCell _ _ _ n, ?_⟩
  have g := g2_gr h.2.2.2.2 (by omega)
  exact gr_new (gr_new (gr_new (gr_new (gr_new (gr_new g _ _ _ (Nat.le_refl _)) _ _ _ (Nat.le_refl _)) _ _ _ (Nat.le_refl _)) _ _ _ (Nat.le_refl _)) _ _ _ (Nat.le_refl _)) _ _ _ (Nat.le_refl _)
def LShape (v : Value) : Prop := ∃ (T D Q : Int) (a1 a2 a3 : Option Addr) (n1 n2 n3 d1 d2 d3 : Nat), v = .agg #[.int .i64 T, .int .i64 D, .int .i64 Q, .slice a1 n1 d1, .slice a2 n2 d2, .slice a3 n3 d3]

set_option maxHeartbeats 2000000 in
theorem layout_c (b : Nat) (s : ByteArray) (w : World) (h : Cur w b s 0) (hs : s.size ≤ 256) :
    Calls Tryz.prog 156 #[.pointer (some ⟨b, 0, none⟩)] w fun e w' => ∃ v, e = .returned (.tuple #[v, .bool (layL s).1]) ∧ LShape v ∧
      ((layL s).1 = true → CLay w' v (layL s).2.2) ∧ Cur w' b s (layL s).2.1 ∧ (layL s).2.1 ≤ s.size ∧ w.grownBy w' (some b) := by
  have hbw := h.cells.2.2.2.2
  obtain ⟨Z, hZ⟩ : ∃ Z, Z = layL s := ⟨_, rfl⟩
  rw [← hZ]
  unfold layL at hZ
  have HZ := hide hZ
  have M := hide (show LMid w ((w.alloc zeroLay).alloc zeroLay) b s 0 0 0 0 (.slice none 0 0) (.slice none 0 0) (.slice none 0 0) from ⟨blk1 w _ _, blk2 w _ _, (h.alloc _).alloc _, Nat.zero_le _, ((G2.refl w b _).alloc _).alloc _⟩)
  have hbl : b ≠ w.heap.size + 1 := by omega
  clear h hZ
  have H1 := hide (times_c b (w.heap.size + 1) s 0 _ (unhide M).2.2.1 (unhide M).2.1 hs (unhide M).2.2.2.1 hbl)
  simp only [Nat.zero_add] at H1
  go_enter Tryz.func156, Tryz.ntmps156
  go_wp2_with fail
  refine (unhide H1).mono ?_
  rintro e w1 ⟨t, d, q, rfl, a1, a2, a3, a4, a5⟩
  have M1 := hide ((unhide M).step hbw a1 a3 a4 a5)
  have HT := hide a2
  clear M H1 a1 a2 a3 a4 a5
  have M := M1
  clear M1
  by_cases c1 : timesN s 0 = 3
  · rw [if_neg (by simp [c1])] at HZ
    rw [c1] at M
    have hT := unhide HT c1
    clear HT
    have hb : (timesN s 0 == 3) = true := by simp [c1]
    rw [hb]
    clear hb c1
    have H2 := hide (take_any b s 3 47 w1 (unhide M).2.2.1 hs (unhide M).2.2.2.1 (by omega))
    go_wp2_with fail
    refine (unhide H2).mono ?_
    rintro e w2 ⟨rfl, a1, a2, a3⟩
    have M2 := hide ((unhide M).take hbw a1 a2 a3)
    clear M H2 a1 a2 a3
    have M := M2
    clear M2
    have HTT := hide hT
    clear hT
    cases h2 : (pk s 3 == 47) with
    | false =>
      rw [h2, if_pos rfl] at HZ
      rw [h2] at M
      clear h2
      obtain ⟨⟨r0, r1, r2, r3, r4, r5⟩, ⟨e0, e1, e2, e3, e4, e5⟩, qr⟩ := six0 (unhide M).1
      obtain ⟨⟨l0, l1, l2, l3, l4, l5⟩, ⟨k0, k1, k2, k3, k4, k5⟩, ql⟩ := six0 (unhide M).2.1
      have N := hide ((unhide M).fin hbw (.int .i64 t) (.int .i64 d) (.int .i64 q) (.slice none 0 0) (.slice none 0 0) (.slice none 0 0))
      have P := hide (unhide M).2.2.2.1
      go_wp2
      refine bodyPost_ret (v := .tuple #[.agg #[.int .i64 t, .int .i64 d, .int .i64 q, (.slice none 0 0), (.slice none 0 0), (.slice none 0 0)], .bool false]) (by simp [results, Tryz.results156, go_sem, r0, r1, r2, r3, r4, r5]) rfl ?_
      exact ⟨_, by rw [unhide HZ] <;> rfl, ⟨_, _, _, _, _, _, _, _, _, _, _, _, rfl⟩, fun h => absurd h (by rw [unhide HZ]; simp), by rw [unhide HZ]; exact (unhide N).1, by rw [unhide HZ]; exact unhide P, (unhide N).2⟩
    | true =>
      rw [h2, if_neg (by simp)] at HZ
      rw [h2] at M
      clear h2
      have H3 := hide (sections_c b (w.heap.size + 1) s 4 t d q w2 (unhide M).2.2.1 (unhide M).2.1 hs (unhide M).2.2.2.1 hbl)
      go_wp2_with fail
      refine (unhide H3).mono ?_
      rintro e w3 ⟨b1, n1, d1, rfl, a1, a2, a3, a4, a5⟩
      have M3 := hide ((unhide M).step hbw a1 a3 a4 a5)
      have HB := hide a2
      clear M H3 a1 a2 a3 a4 a5
      have M := M3
      clear M3
      by_cases c3 : (secL s 300 4).1.length = 0
      · rw [if_pos c3] at HZ
        rw [show decide (0 < (secL s 300 4).1.length) = false from decide_eq_false (by omega)]
        clear c3
        obtain ⟨⟨r0, r1, r2, r3, r4, r5⟩, ⟨e0, e1, e2, e3, e4, e5⟩, qr⟩ := six0 (unhide M).1
        obtain ⟨⟨l0, l1, l2, l3, l4, l5⟩, ⟨k0, k1, k2, k3, k4, k5⟩, ql⟩ := six0 (unhide M).2.1
        have N := hide ((unhide M).fin hbw (.int .i64 t) (.int .i64 d) (.int .i64 q) (.slice b1 n1 d1) (.slice none 0 0) (.slice none 0 0))
        have P := hide (unhide M).2.2.2.1
        go_wp2
        refine bodyPost_ret (v := .tuple #[.agg #[.int .i64 t, .int .i64 d, .int .i64 q, (.slice b1 n1 d1), (.slice none 0 0), (.slice none 0 0)], .bool false]) (by simp [results, Tryz.results156, go_sem, r0, r1, r2, r3, r4, r5]) rfl ?_
        exact ⟨_, by rw [unhide HZ] <;> rfl, ⟨_, _, _, _, _, _, _, _, _, _, _, _, rfl⟩, fun h => absurd h (by rw [unhide HZ]; simp), by rw [unhide HZ]; exact (unhide N).1, by rw [unhide HZ]; exact unhide P, (unhide N).2⟩
      · rw [if_neg c3] at HZ
        rw [show decide (0 < (secL s 300 4).1.length) = true from decide_eq_true (by omega)]
        clear c3
        obtain ⟨SE, hSE⟩ : ∃ SE, SE = secL s 300 4 := ⟨_, rfl⟩
        rw [← hSE] at HZ HB M
        clear hSE
        have H4 := hide (take_any b s SE.2 47 w3 (unhide M).2.2.1 hs (unhide M).2.2.2.1 (by omega))
        go_wp2_with fail
        refine (unhide H4).mono ?_
        rintro e w4 ⟨rfl, a1, a2, a3⟩
        have HB4 := hide ((unhide HB).keep ((unhide M).keeps (g2_of_gr a3) (by decide) (by decide)))
        have M4 := hide ((unhide M).take hbw a1 a2 a3)
        clear M H4 a1 a2 a3 HB
        have M := M4
        clear M4
        cases h4 : (pk s SE.2 == 47) with
        | false =>
          rw [h4, if_pos rfl] at HZ
          rw [h4] at M
          clear h4
          obtain ⟨⟨r0, r1, r2, r3, r4, r5⟩, ⟨e0, e1, e2, e3, e4, e5⟩, qr⟩ := six0 (unhide M).1
          obtain ⟨⟨l0, l1, l2, l3, l4, l5⟩, ⟨k0, k1, k2, k3, k4, k5⟩, ql⟩ := six0 (unhide M).2.1
          have N := hide ((unhide M).fin hbw (.int .i64 t) (.int .i64 d) (.int .i64 q) (.slice b1 n1 d1) (.slice none 0 0) (.slice none 0 0))
          have P := hide (unhide M).2.2.2.1
          go_wp2
          refine bodyPost_ret (v := .tuple #[.agg #[.int .i64 t, .int .i64 d, .int .i64 q, (.slice b1 n1 d1), (.slice none 0 0), (.slice none 0 0)], .bool false]) (by simp [results, Tryz.results156, go_sem, r0, r1, r2, r3, r4, r5]) rfl ?_
          exact ⟨_, by rw [unhide HZ] <;> rfl, ⟨_, _, _, _, _, _, _, _, _, _, _, _, rfl⟩, fun h => absurd h (by rw [unhide HZ]; simp), by rw [unhide HZ]; exact (unhide N).1, by rw [unhide HZ]; exact unhide P, (unhide N).2⟩
        | true =>
          rw [h4, if_neg (by simp)] at HZ
          rw [h4] at M
          clear h4
          have H5 := hide (routes_c b (w.heap.size + 1) s (SE.2 + 1) t d q b1 n1 d1 w4 (unhide M).2.2.1 (unhide M).2.1 hs (unhide M).2.2.2.1 hbl)
          obtain ⟨RS, hRS⟩ : ∃ RS, RS = rtsL s 300 (SE.2 + 1) := ⟨_, rfl⟩
          rw [← hRS] at HZ H5
          clear hRS
          go_wp2_with fail
          refine (unhide H5).mono ?_
          rintro e w5 ⟨b2, n2, d2, rfl, a1, a2, a3, a4, a5⟩
          have HB5 := hide ((unhide HB4).keep ((unhide M).keeps a5 (by decide) (by decide)))
          have M5 := hide ((unhide M).step hbw a1 a3 a4 a5)
          have HRS := hide a2
          clear M H5 a1 a2 a3 a4 a5 HB4
          have M := M5
          clear M5
          cases h5 : RS.1 with
          | false =>
            rw [h5, if_pos rfl] at HZ
            clear h5
            obtain ⟨⟨r0, r1, r2, r3, r4, r5⟩, ⟨e0, e1, e2, e3, e4, e5⟩, qr⟩ := six0 (unhide M).1
            obtain ⟨⟨l0, l1, l2, l3, l4, l5⟩, ⟨k0, k1, k2, k3, k4, k5⟩, ql⟩ := six0 (unhide M).2.1
            have N := hide ((unhide M).fin hbw (.int .i64 t) (.int .i64 d) (.int .i64 q) (.slice b1 n1 d1) (.slice b2 n2 d2) (.slice none 0 0))
            have P := hide (unhide M).2.2.2.1
            go_wp2
            refine bodyPost_ret (v := .tuple #[.agg #[.int .i64 t, .int .i64 d, .int .i64 q, (.slice b1 n1 d1), (.slice b2 n2 d2), (.slice none 0 0)], .bool false]) (by simp [results, Tryz.results156, go_sem, r0, r1, r2, r3, r4, r5]) rfl ?_
            exact ⟨_, by rw [unhide HZ] <;> rfl, ⟨_, _, _, _, _, _, _, _, _, _, _, _, rfl⟩, fun h => absurd h (by rw [unhide HZ]; simp), by rw [unhide HZ]; exact (unhide N).1, by rw [unhide HZ]; exact unhide P, (unhide N).2⟩
          | true =>
            have HRS2 := hide (unhide HRS h5)
            rw [h5, if_neg (by simp)] at HZ
            clear h5 HRS
            have H6 := hide (take_any b s RS.2.1 47 w5 (unhide M).2.2.1 hs (unhide M).2.2.2.1 (by omega))
            go_wp2_with fail
            refine (unhide H6).mono ?_
            rintro e w6 ⟨rfl, a1, a2, a3⟩
            have HB6 := hide ((unhide HB5).keep ((unhide M).keeps (g2_of_gr a3) (by decide) (by decide)))
            have HR6 := hide ((unhide HRS2).keep ((unhide M).keeps (g2_of_gr a3) (by decide) (by decide)) ((unhide M).keeps (g2_of_gr a3) (by decide) (by decide)))
            have M6 := hide ((unhide M).take hbw a1 a2 a3)
            clear M H6 a1 a2 a3 HB5 HRS2
            have M := M6
            clear M6
            cases h6 : (pk s RS.2.1 == 47) with
            | false =>
              rw [h6, if_pos rfl] at HZ
              rw [h6] at M
              clear h6
              obtain ⟨⟨r0, r1, r2, r3, r4, r5⟩, ⟨e0, e1, e2, e3, e4, e5⟩, qr⟩ := six0 (unhide M).1
              obtain ⟨⟨l0, l1, l2, l3, l4, l5⟩, ⟨k0, k1, k2, k3, k4, k5⟩, ql⟩ := six0 (unhide M).2.1
              have N := hide ((unhide M).fin hbw (.int .i64 t) (.int .i64 d) (.int .i64 q) (.slice b1 n1 d1) (.slice b2 n2 d2) (.slice none 0 0))
              have P := hide (unhide M).2.2.2.1
              go_wp2
              refine bodyPost_ret (v := .tuple #[.agg #[.int .i64 t, .int .i64 d, .int .i64 q, (.slice b1 n1 d1), (.slice b2 n2 d2), (.slice none 0 0)], .bool false]) (by simp [results, Tryz.results156, go_sem, r0, r1, r2, r3, r4, r5]) rfl ?_
              exact ⟨_, by rw [unhide HZ] <;> rfl, ⟨_, _, _, _, _, _, _, _, _, _, _, _, rfl⟩, fun h => absurd h (by rw [unhide HZ]; simp), by rw [unhide HZ]; exact (unhide N).1, by rw [unhide HZ]; exact unhide P, (unhide N).2⟩
            | true =>
              rw [h6, if_neg (by simp)] at HZ
              rw [h6] at M
              clear h6
              have H7 := hide (trains_c b (w.heap.size + 1) s (RS.2.1 + 1) t d q b1 b2 n1 d1 n2 d2 w6 (unhide M).2.2.1 (unhide M).2.1 hs (unhide M).2.2.2.1 hbl)
              obtain ⟨TS, hTS⟩ : ∃ TS, TS = tnsL s 300 (RS.2.1 + 1) := ⟨_, rfl⟩
              rw [← hTS] at HZ H7
              clear hTS
              go_wp2_with fail
              refine (unhide H7).mono ?_
              rintro e w7 ⟨b3, n3, d3, rfl, a1, a2, a3, a4, a5⟩
              have HB7 := hide ((unhide HB6).keep ((unhide M).keeps a5 (by decide) (by decide)))
              have HR7 := hide ((unhide HR6).keep ((unhide M).keeps a5 (by decide) (by decide)) ((unhide M).keeps a5 (by decide) (by decide)))
              have M7 := hide ((unhide M).step hbw a1 a3 a4 a5)
              have HTS := hide a2
              clear M H7 a1 a2 a3 a4 a5 HB6 HR6
              have M := M7
              clear M7
              have kS := hide (store6 (⟨_, _, (unhide M).1⟩ : Typed w7 w.heap.size 83) (.int .i64 t) (.int .i64 d) (.int .i64 q) (.slice b1 n1 d1) (.slice b2 n2 d2) (.slice b3 n3 d3)).1
              obtain ⟨rfl, rfl, rfl⟩ := unhide HTT
              obtain ⟨⟨r0, r1, r2, r3, r4, r5⟩, ⟨e0, e1, e2, e3, e4, e5⟩, qr⟩ := six0 (unhide M).1
              obtain ⟨⟨l0, l1, l2, l3, l4, l5⟩, ⟨k0, k1, k2, k3, k4, k5⟩, ql⟩ := six0 (unhide M).2.1
              have N := hide ((unhide M).fin hbw (.int .i64 ((pk s 0 - 48 : Nat) : Int)) (.int .i64 ((pk s 1 - 48 : Nat) : Int)) (.int .i64 ((pk s 2 - 48 : Nat) : Int)) (.slice b1 n1 d1) (.slice b2 n2 d2) (.slice b3 n3 d3))
              have P := hide (unhide M).2.2.2.1
              go_wp2
              refine bodyPost_ret (v := .tuple #[.agg #[.int .i64 ((pk s 0 - 48 : Nat) : Int), .int .i64 ((pk s 1 - 48 : Nat) : Int), .int .i64 ((pk s 2 - 48 : Nat) : Int), (.slice b1 n1 d1), (.slice b2 n2 d2), (.slice b3 n3 d3)], .bool TS.1]) (by simp [results, Tryz.results156, go_sem, r0, r1, r2, r3, r4, r5]) rfl ?_
              exact ⟨_, by rw [unhide HZ] <;> rfl, ⟨_, _, _, _, _, _, _, _, _, _, _, _, rfl⟩, fun h => by rw [unhide HZ] at h ⊢; exact CLay.keep ⟨_, _, _, rfl, unhide HB7, unhide HR7, unhide HTS h⟩ (unhide kS), by rw [unhide HZ]; exact (unhide N).1, by rw [unhide HZ]; exact unhide P, (unhide N).2⟩
  · rw [if_pos c1] at HZ
    have hb : (timesN s 0 == 3) = false := by simpa using c1
    rw [hb]
    clear hb c1 HT
    obtain ⟨⟨r0, r1, r2, r3, r4, r5⟩, ⟨e0, e1, e2, e3, e4, e5⟩, qr⟩ := six0 (unhide M).1
    obtain ⟨⟨l0, l1, l2, l3, l4, l5⟩, ⟨k0, k1, k2, k3, k4, k5⟩, ql⟩ := six0 (unhide M).2.1
    have N := hide ((unhide M).fin hbw (.int .i64 t) (.int .i64 d) (.int .i64 q) (.slice none 0 0) (.slice none 0 0) (.slice none 0 0))
    have P := hide (unhide M).2.2.2.1
    go_wp2
    refine bodyPost_ret (v := .tuple #[.agg #[.int .i64 t, .int .i64 d, .int .i64 q, (.slice none 0 0), (.slice none 0 0), (.slice none 0 0)], .bool false]) (by simp [results, Tryz.results156, go_sem, r0, r1, r2, r3, r4, r5]) rfl ?_
    exact ⟨_, by rw [unhide HZ] <;> rfl, ⟨_, _, _, _, _, _, _, _, _, _, _, _, rfl⟩, fun h => absurd h (by rw [unhide HZ]; simp), by rw [unhide HZ]; exact (unhide N).1, by rw [unhide HZ]; exact unhide P, (unhide N).2⟩
end Go.Proofs.YtkbpocecbcaiiaaGreatDoor

/-
  THE WALK OVER plan.Read.
-/
namespace Go.Proofs.YtkbpocecbcaiiaaGreatDoor
open Go.RowKit

/-- plan.Read's error and place. -/
def formOf (s : ByteArray) : Nat × Nat :=
  if 256 < s.size then (1, 0)
  else if ((layL s).1 && decide ((layL s).2.1 = s.size)) = false then (2, (layL s).2.1)
  else (0, 0)
def zeroLV : Value := .agg #[.int .i64 0, .int .i64 0, .int .i64 0, .slice none 0 0, .slice none 0 0, .slice none 0 0]
theorem zeroLV_shape : LShape zeroLV := ⟨0, 0, 0, none, none, none, 0, 0, 0, 0, 0, 0, rfl⟩
theorem gr_below {w w' : World} {b : Nat} (h : w.grownBy w' (some b)) (B : Nat) (hB : B ≤ w.heap.size) (hb : B ≤ b) : Below B w w' :=
  ⟨h.os, h.tape, h.output, h.size, fun k hk => h.block k (by omega) (by simp; omega)⟩

set_option maxHeartbeats 1000000 in
theorem cRead_any (s : ByteArray) (w : World) :
    Calls Tryz.prog 110 #[.string s] w fun e w' => ∃ v, e = .returned (.tuple #[v, .int .i64 (formOf s).1, .int .i64 (formOf s).2]) ∧ LShape v ∧ ((formOf s).1 = 0 → CLay w' v (layL s).2.2) ∧ Below w.heap.size w w' := by
  obtain ⟨E, hE⟩ : ∃ E, E = formOf s := ⟨_, rfl⟩
  rw [← hE]
  unfold formOf at hE
  have HE := hide hE
  clear hE
  by_cases c1 : 256 < s.size
  · rw [if_pos c1] at HE
    have c1' : (256 : Int) < s.size := by omega
    clear c1
    go_enter Tryz.func110, Tryz.ntmps110
    go_wp2
    refine bodyPost_ret (v := .tuple #[zeroLV, .int .i64 1, .int .i64 0]) (by simp [results, Tryz.results110, go_sem, zeroLV]) rfl ?_
    exact ⟨zeroLV, by rw [unhide HE]; rfl, zeroLV_shape, fun h => absurd h (by rw [unhide HE]; simp), below_alloc _ _⟩
  · rw [if_neg c1] at HE
    have hs : s.size ≤ 256 := by omega
    have c1' : ¬ (256 : Int) < s.size := by omega
    clear c1
    have hC : Cur ((w.alloc zeroLay).alloc (.cells #[.string s, .int .i64 0] 211)) (w.heap.size + 1) s 0 := blk2 w _ _
    have hR := blk1 w zeroLay (.cells #[.string s, .int .i64 0] 211)
    have H := hide (layout_c (w.heap.size + 1) s _ hC hs)
    have HR := hide hR
    clear hC hR
    obtain ⟨Z, hZ⟩ : ∃ Z, Z = layL s := ⟨_, rfl⟩
    rw [← hZ] at HE H ⊢
    clear hZ
    go_enter Tryz.func110, Tryz.ntmps110
    go_wp2_with fail
    refine (unhide H).mono ?_
    rintro e w1 ⟨v, rfl, ⟨T, D, Q, a1, a2, a3, n1, n2, n3, d1, d2, d3, rfl⟩, hL, hC1, hle, hg⟩
    have hbw : Below w.heap.size w w1 := (((Below.refl _ _).alloc (Nat.le_refl _) _).alloc (by simp) _).trans (gr_below hg w.heap.size (by simp; omega) (by omega))
    have hR1 := blk_gr (unhide HR) hg (by omega)
    have D1 := hide (And.intro hR1 (And.intro hC1 (And.intro hbw hL)))
    obtain ⟨q0, q1, q2, q3, qb⟩ := hC1.cells
    obtain ⟨⟨r0, r1, r2, r3, r4, r5⟩, ⟨e0, e1, e2, e3, e4, e5⟩, qr⟩ := six0 hR1
    have hS := hide (fun u0 u1 u2 u3 u4 u5 => store6 (⟨_, _, hR1⟩ : Typed w1 w.heap.size 83) u0 u1 u2 u3 u4 u5)
    clear HR H hL hC1 hg hbw hR1
    cases hok : (Z.1 && decide (Z.2.1 = s.size)) with
    | false =>
      rw [hok, if_pos rfl] at HE
      have hcase : Z.1 = false ∨ (Z.1 = true ∧ (Z.2.1 : Int) < s.size) := by
        cases h1 : Z.1
        · exact .inl rfl
        · right
          rw [h1] at hok
          simp at hok
          exact ⟨rfl, by omega⟩
      clear hok
      rcases hcase with h1 | ⟨h1, h2⟩
      · rw [h1]
        clear h1
        go_wp2
        go_region
        go_wp2
        refine bodyPost_ret (v := .tuple #[zeroLV, .int .i64 2, .int .i64 Z.2.1]) (by simp [results, Tryz.results110, go_sem, zeroLV, r0, r1, r2, r3, r4, r5, qr]) rfl ?_
        refine ⟨zeroLV, by rw [unhide HE]; rfl, zeroLV_shape, fun h => absurd h (by rw [unhide HE]; simp), ?_⟩
        have hb9 := (unhide D1).2.2.1.trans ((unhide hS (.int .i64 0) (.int .i64 0) (.int .i64 0) (.slice none 0 0) (.slice none 0 0) (.slice none 0 0)).2 w.heap.size (Nat.le_refl _))
        exact (hb9.alloc hb9.size _).drew
      · rw [h1]
        clear h1
        go_wp2
        go_region
        go_wp2
        refine bodyPost_ret (v := .tuple #[zeroLV, .int .i64 2, .int .i64 Z.2.1]) (by simp [results, Tryz.results110, go_sem, zeroLV, r0, r1, r2, r3, r4, r5, qr]) rfl ?_
        refine ⟨zeroLV, by rw [unhide HE]; rfl, zeroLV_shape, fun h => absurd h (by rw [unhide HE]; simp), ?_⟩
        have hb9 := (unhide D1).2.2.1.trans ((unhide hS (.int .i64 0) (.int .i64 0) (.int .i64 0) (.slice none 0 0) (.slice none 0 0) (.slice none 0 0)).2 w.heap.size (Nat.le_refl _))
        exact (hb9.alloc hb9.size _).drew
    | true =>
      rw [hok, if_neg (by simp)] at HE
      have h12 : Z.1 = true ∧ Z.2.1 = s.size := by simpa using hok
      obtain ⟨h1, h2⟩ := h12
      have h2' : ¬ ((Z.2.1 : Int) < s.size) := by omega
      have HCL := hide ((unhide D1).2.2.2 h1)
      rw [h1]
      clear hok h1 h2
      go_wp2
      refine bodyPost_ret (v := .tuple #[.agg #[.int .i64 T, .int .i64 D, .int .i64 Q, .slice a1 n1 d1, .slice a2 n2 d2, .slice a3 n3 d3], .int .i64 0, .int .i64 0]) (by simp [results, Tryz.results110, go_sem, r0, r1, r2, r3, r4, r5, qr]) rfl ?_
      have hSS := unhide hS (.int .i64 T) (.int .i64 D) (.int .i64 Q) (.slice a1 n1 d1) (.slice a2 n2 d2) (.slice a3 n3 d3)
      have hb9 := (unhide D1).2.2.1.trans (hSS.2 w.heap.size (Nat.le_refl _))
      refine ⟨_, by rw [unhide HE]; rfl, ⟨_, _, _, _, _, _, _, _, _, _, _, _, rfl⟩, fun _ => ?_, hb9.alloc hb9.size _⟩
      exact ((unhide HCL).keep hSS.1).below (below_alloc _ _)
end Go.Proofs.YtkbpocecbcaiiaaGreatDoor
