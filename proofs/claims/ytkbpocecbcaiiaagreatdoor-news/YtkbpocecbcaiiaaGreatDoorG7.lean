import Derived.Test.YtkbpocecbcaiiaaGreatDoorG6
import Derived.Test.YtkbpocecbcaiiaaGreatDoorG4
/-
  THE WALKS OVER plan's cursor: sections.
-/
namespace Go.Proofs.YtkbpocecbcaiiaaGreatDoor
open Go.RowKit

/-- only blocks b and l, and new ones, have turned. -/
def G2 (w w' : World) (b l : Nat) : Prop := w'.os = w.os ∧ w'.tape = w.tape ∧ w'.output = w.output ∧ w.heap.size ≤ w'.heap.size ∧ ∀ k, k < w.heap.size → k ≠ b → k ≠ l → w'.heap[k]? = w.heap[k]?
theorem G2.refl (w : World) (b l : Nat) : G2 w w b l := ⟨rfl, rfl, rfl, Nat.le_refl _, fun _ _ _ _ => rfl⟩
theorem G2.trans {w w1 w2 : World} {b l : Nat} (h : G2 w w1 b l) (k : G2 w1 w2 b l) : G2 w w2 b l :=
  ⟨k.1.trans h.1, k.2.1.trans h.2.1, k.2.2.1.trans h.2.2.1, Nat.le_trans h.2.2.2.1 k.2.2.2.1, fun i hi n1 n2 => (k.2.2.2.2 i (Nat.lt_of_lt_of_le hi h.2.2.2.1) n1 n2).trans (h.2.2.2.2 i hi n1 n2)⟩
theorem G2.gr {w w1 w2 : World} {b l : Nat} (h : G2 w w1 b l) (g : w1.grownBy w2 (some b)) : G2 w w2 b l :=
  h.trans ⟨g.os, g.tape, g.output, g.size, fun k hk n1 _ => g.block k hk (by simpa using n1)⟩
theorem G2.set {w w1 : World} {b l : Nat} (h : G2 w w1 b l) (j : Nat) (u : Value) : G2 w (w1.setCell ⟨l, j, none⟩ u) b l :=
  h.trans ⟨rfl, rfl, rfl, by simp [World.setCell], fun k _ _ n2 => Below.heap_setCell _ _ _ _ n2⟩
theorem G2.setb {w w1 : World} {b l : Nat} (h : G2 w w1 b l) (j : Nat) (u : Value) : G2 w (w1.setCell ⟨b, j, none⟩ u) b l :=
  h.trans ⟨rfl, rfl, rfl, by simp [World.setCell], fun k _ n1 _ => Below.heap_setCell _ _ _ _ n1⟩
theorem G2.setn {w w1 : World} {b l : Nat} (h : G2 w w1 b l) (g j : Nat) (u : Value) (hg : w.heap.size ≤ g) : G2 w (w1.setCell ⟨g, j, none⟩ u) b l :=
  ⟨h.1, h.2.1, h.2.2.1, by simpa [World.setCell] using h.2.2.2.1, fun k hk n1 n2 => by rw [Below.heap_setCell _ _ _ _ (by show k ≠ g; omega)]; exact h.2.2.2.2 k hk n1 n2⟩
theorem G2.alloc {w w1 : World} {b l : Nat} (h : G2 w w1 b l) (o : Obj) : G2 w (w1.alloc o) b l :=
  h.trans ⟨rfl, rfl, rfl, by simp, fun k hk _ _ => Below.heap_alloc _ _ _ hk⟩
theorem G2.drew {w w1 : World} {b l : Nat} (h : G2 w w1 b l) : G2 w w1.drew b l := h
theorem G2.own {w w1 w2 : World} {b l B : Nat} {o : Obj} {v : Value} {e : TypeId} {size n : Nat} {xs : List Value} (h : G2 w w1 b l) (hB : w.heap.size ≤ B)
    (hown : w1.ownsRow B e size v n xs) (hg : (w1.alloc o).grownBy w2 v.ownBlock) : G2 w w2 b l := by
  refine ⟨hg.os.trans h.1, hg.tape.trans h.2.1, hg.output.trans h.2.2.1, Nat.le_trans h.2.2.2.1 (Nat.le_trans (by simp) hg.size), fun k hk n1 n2 => ?_⟩
  have hk1 : k < w1.heap.size := Nat.lt_of_lt_of_le hk h.2.2.2.1
  have h1 : (w1.alloc o).heap[k]? = w1.heap[k]? := Below.heap_alloc _ _ _ hk1
  have h2 : w2.heap[k]? = (w1.alloc o).heap[k]? := hg.block k (by simp; omega) (fun e => by have := (hown.lt k e.symm).1; omega)
  rw [h2, h1]
  exact h.2.2.2.2 k hk n1 n2

/-- a plan.Layout in block l. -/
def LCell (w : World) (l : Nat) (t d q vs vr vt : Value) : Prop := w.heap[l]? = some (.cells #[t, d, q, vs, vr, vt] 83 (0, 0))

/-- sections, from a place on. -/
def secL (s : ByteArray) : Nat → Nat → List Bool × Nat
  | 0, p => ([], p)
  | f + 1, p => if pk s p = 46 ∨ pk s p = 121 then (((pk s p == 121) :: (secL s f (p + 1)).1), (secL s f (p + 1)).2) else ([], p)

set_option maxHeartbeats 1000000 in
theorem sections_c (b l : Nat) (s : ByteArray) (p : Nat) (t d q : Int) (w : World) (h : Cur w b s p) (hL : LCell w l (.int .i64 t) (.int .i64 d) (.int .i64 q) (.slice none 0 0) (.slice none 0 0) (.slice none 0 0)) (hs : s.size ≤ 256) (hp : p ≤ s.size) (hbl : b ≠ l) :
    Calls Tryz.prog 186 #[.pointer (some ⟨b, 0, none⟩), .pointer (some ⟨l, 0, none⟩)] w fun e w' => ∃ (a1 : Option Addr) (n1 c1 : Nat), e = .returned (.bool (decide (0 < (secL s 300 p).1.length))) ∧
      LCell w' l (.int .i64 t) (.int .i64 d) (.int .i64 q) (.slice a1 n1 c1) (.slice none 0 0) (.slice none 0 0) ∧ Bools w' (.slice a1 n1 c1) (secL s 300 p).1 ∧ Cur w' b s (secL s 300 p).2 ∧ (secL s 300 p).2 ≤ s.size ∧ G2 w w' b l := by
  have hbw := h.cells.2.2.2.2
  have hlw := blk_lt hL
  obtain ⟨i0, hi0⟩ := info_parts Tryz.infoBool
  have HI := hide hi0
  clear hi0
  obtain ⟨Z, hZ⟩ : ∃ Z, Z = secL s 300 p := ⟨_, rfl⟩
  rw [← hZ]
  have H1 := hide (peek_any b s p w h hp)
  go_enter Tryz.func186, Tryz.ntmps186
  go_wp2_with fail
  refine (unhide H1).mono ?_
  rintro e w1 ⟨rfl, a3⟩
  have A := hide (And.intro (h.gr a3 (by simp)) (And.intro (blk_gr hL (gr_none a3 (some b)) (Ne.symm hbl)) (And.intro ((G2.refl w b l).gr (gr_none a3 _)) hZ)))
  clear H1 a3 hZ
  go_wp2
  go_loopg [5] 300 (fun f c wr => ∃ q' : Nat, ∃ acc vs, c = .int .u8 (pk s q') ∧ acc.length ≤ q' ∧ q' ≤ s.size ∧ s.size < q' + f ∧ wr.ownsRow w.heap.size 4 1 vs acc.length (boolsV acc) ∧ Z = (acc ++ (secL s f q').1, (secL s f q').2) ∧
      LCell wr l (.int .i64 t) (.int .i64 d) (.int .i64 q) vs (.slice none 0 0) (.slice none 0 0) ∧ Cur wr b s q' ∧ G2 w wr b l)
  case atStart => exact ⟨p, [], _, rfl, Nat.zero_le _, hp, by omega, World.ownsRow_nil _ _ _ _, (unhide A).2.2.2, (unhide A).2.1, (unhide A).1, (unhide A).2.2.1⟩
  case round =>
    clear A
    obtain ⟨q', acc, vs, rfl, hac, hq, hf, hown, hZ2, hLc, hC, hG⟩ := hrel
    obtain ⟨f, hfe⟩ : ∃ f, gk = f + 1 := ⟨gk - 1, by omega⟩
    subst hfe
    have hsz := hG.2.2.2.1
    obtain ⟨⟨y0, y1, y2, y3, y4, y5⟩, ⟨f0, f1, f2, f3, f4, f5⟩, ql⟩ := six0 hLc
    obtain ⟨c0, c1, cf0, cf1, qb⟩ := hC.cells
    obtain ⟨av, cv, hvs⟩ := slice_of_own hown
    subst hvs
    have hc256 := pk_lt s q'
    by_cases hin : pk s q' = 46 ∨ pk s q' = 121
    · have hlt : q' < s.size := pk_pos s q' (by omega)
      have HZ2 := hide (show Z = ((acc ++ [pk s q' == 121]) ++ (secL s f (q' + 1)).1, (secL s f (q' + 1)).2) by rw [hZ2]; simp [secL, hin])
      have F := hide (And.intro hLc (And.intro hC hG))
      have hL := hide (fun w' (h : Cur w' b s (q' + 1)) => peek_any b s (q' + 1) w' h hlt)
      have hqq : (q' : Int) + 1 = ((q' + 1 : Nat) : Int) := by omega
      have HQQ := hide hqq
      have hbv : ∃ bv, bv = (pk s q' == 121) ∧ ((pk s q' : Int) == 121) = bv := ⟨_, rfl, by rw [Bool.eq_iff_iff]; simp; omega⟩
      obtain ⟨bv, hb1, hb2⟩ := hbv
      rw [← hb1] at HZ2
      have hin2 : ((pk s q' : Int) == 46) = true ∨ (((pk s q' : Int) == 46) = false ∧ ((pk s q' : Int) == 121) = true) := by
        rcases hin with h | h
        · left; simp; omega
        · right; constructor <;> simp <;> omega
      generalize pk s q' = c at *
      clear hZ2 hLc hC hG hb1 hqq hin
      have hcase : (bv = false ∧ ((c : Int) == 46) = true ∧ ((c : Int) == 121) = false) ∨ (bv = true ∧ ((c : Int) == 46) = false ∧ ((c : Int) == 121) = true) := by
        rcases hin2 with h | ⟨h1, h2⟩
        · left
          have h3 : ((c : Int) == 121) = false := by simp at h ⊢; omega
          exact ⟨hb2.symm.trans h3, h, h3⟩
        · right; exact ⟨hb2.symm.trans h2, h1, h2⟩
      clear hin2 hb2
      rcases hcase with ⟨hbv, hin2, hin3⟩ | ⟨hbv, hin2, hin3⟩ <;> subst hbv
      all_goals
        go_wp2_with (first
          | (at_builtin; refine wpList_append_own _ rfl _ _ 49 rfl w.heap.size 4 i0 (.bool false) 1 1 Tryz.underlying49 (unhide HI).1 (unhide HI).2.1 (unhide HI).2.2.1 (unhide HI).2.2.2 rfl (by decide) _ _ _ rfl (hown.alloc _) ⟨wr.heap.size, 0, none⟩ 1 1 [.bool _] rfl rfl (one_new _ _ _) (one_cell1 rfl) (by unfold maxLen; omega) (by omega) (by simp; omega) ?_; intro v3 w3 hown3 hgrow0 _; have hgrow3 : (wr.alloc (.cells #[.bool _] 4)).grownBy w3 (Value.slice av acc.length cv).ownBlock := hgrow0; have hL3 := (append_keeps hown hgrow3 (by decide) _ _ _ (unhide F).1).trans (unhide F).1; have hC3 := (unhide F).2.1.own hown hgrow3 (by decide); have HF3 := hide (And.intro hL3 (And.intro hC3 ((unhide F).2.2.own (Nat.le_refl _) hown hgrow3))); obtain ⟨av', cv', hv'⟩ := slice_of_own hown3; subst hv'; clear y0 y1 y2 y3 y4 y5 f0 f1 f2 f3 f4 f5 ql c0 c1 cf0 cf1 qb; obtain ⟨⟨y0, y1, y2, y3, y4, y5⟩, ⟨f0, f1, f2, f3, f4, f5⟩, ql⟩ := six0 hL3; obtain ⟨c0, c1, cf0, cf1, qb⟩ := hC3.cells; clear hL3 hC3)
          | (go_at_call 205; rw [unhide HQQ]; refine (unhide hL _ (((unhide HF3).2.1.setCell l 3 (.slice av' (acc.length + 1) cv') hbl).set (q' + 1))).mono ?_; rintro e w4 ⟨rfl, a3⟩))
        have hL4 := blk_gr ((Below.heap_setCell _ ⟨b, 1, none⟩ (.int .i64 ((q' + 1 : Nat) : Int)) l (Ne.symm hbl)).trans (blk_setCell (j := 3) (.slice av' (acc.length + 1) cv') (unhide HF3).1)) (gr_none a3 (some b)) (Ne.symm hbl)
        have hC4 := (((unhide HF3).2.1.setCell l 3 (.slice av' (acc.length + 1) cv') hbl).set (q' + 1)).gr a3 (by simp)
        have hG4 := (((unhide HF3).2.2.set 3 (.slice av' (acc.length + 1) cv')).setb 1 (.int .i64 ((q' + 1 : Nat) : Int))).gr (gr_none a3 _)
        have hT4 : Typed (w3.setCell ⟨l, 3, none⟩ (.slice av' (acc.length + 1) cv')) b 211 := ((unhide HF3).2.1.setCell l 3 (.slice av' (acc.length + 1) cv') hbl).typed
        have hown4 := (own_set (own_set hown3 l 3 (.slice av' (acc.length + 1) cv') ⟨_, _, (unhide HF3).1⟩ (by decide)) b 1 (.int .i64 ((q' + 1 : Nat) : Int)) hT4 (by decide)).kept a3 (by cases hvv : (Value.slice av' (acc.length + 1) cv').ownBlock <;> simp)
        rw [← boolsV_snoc] at hown4
        go_roundg f
        case measure => omega
        case rel => exact ⟨q' + 1, acc ++ [_], _, rfl, by simp; omega, hlt, by omega, by simpa using hown4, unhide HZ2, hL4, hC4, hG4⟩
    · have n1 : ((pk s q' : Int) == 46) = false := by simp; omega
      have n2 : ((pk s q' : Int) == 121) = false := by simp; omega
      have hZ3 : Z = (acc, q') := by rw [hZ2]; simp [secL, hin]
      have F := hide (And.intro hLc (And.intro (Bools.ofOwn hown rfl) (And.intro hC (And.intro hG hZ3))))
      clear hown hZ2 hZ3 hLc hC hG hin
      generalize pk s q' = c at *
      go_wp2
      go_ret
      obtain ⟨F1, F2, F3, F4, F5⟩ := unhide F
      exact ⟨av, acc.length, cv, by rw [F5] <;> rfl, F1, by rw [F5]; exact F2, by rw [F5]; exact F3, by rw [F5]; exact hq, F4⟩
end Go.Proofs.YtkbpocecbcaiiaaGreatDoor

/-
  THE WALK OVER plan's cursor: times.
-/
namespace Go.Proofs.YtkbpocecbcaiiaaGreatDoor
open Go.RowKit

/-- how many of the three times stand there. -/
def timesN (s : ByteArray) (p : Nat) : Nat :=
  if inB 49 57 (pk s p) = false then 0 else if inB 49 57 (pk s (p + 1)) = false then 1 else if inB 49 57 (pk s (p + 2)) = false then 2 else 3
def dig (s : ByteArray) (p k j : Nat) : Value := .int .i64 ((if j < k then offB 49 57 (pk s (p + j)) + 1 else 0 : Nat) : Int)

theorem timesN_at (s : ByteArray) (p k : Nat) (hk : k ≤ 3) (h : ∀ j, j < k → inB 49 57 (pk s (p + j)) = true) : (k < 3 → inB 49 57 (pk s (p + k)) = false → timesN s p = k) ∧ (k = 3 → timesN s p = 3) := by
  unfold timesN
  have h0 := h 0
  have h1 := h 1
  have h2 := h 2
  simp only [Nat.add_zero] at h0
  constructor
  · intro hlt hf
    obtain rfl | rfl | rfl : k = 0 ∨ k = 1 ∨ k = 2 := by omega
    · simp at hf; simp [hf]
    · simp [h0 (by omega), hf]
    · simp [h0 (by omega), h1 (by omega), hf]
  · intro e; subst e
    simp [h0 (by omega), h1 (by omega), h2 (by omega)]
theorem offB_lt (c : Nat) (h : c < 256) : offB 49 57 c ≤ 8 := by
  unfold offB inB; split
  · rename_i h; simp at h; omega
  · omega

set_option maxHeartbeats 1000000 in
theorem times_c (b l : Nat) (s : ByteArray) (p : Nat) (w : World) (h : Cur w b s p) (hL : LCell w l (.int .i64 0) (.int .i64 0) (.int .i64 0) (.slice none 0 0) (.slice none 0 0) (.slice none 0 0)) (hs : s.size ≤ 256) (hp : p ≤ s.size) (hbl : b ≠ l) :
    Calls Tryz.prog 184 #[.pointer (some ⟨b, 0, none⟩), .pointer (some ⟨l, 0, none⟩)] w fun e w' => ∃ (t d q : Int), e = .returned (.bool (timesN s p == 3)) ∧
      LCell w' l (.int .i64 t) (.int .i64 d) (.int .i64 q) (.slice none 0 0) (.slice none 0 0) (.slice none 0 0) ∧ (timesN s p = 3 → t = ((pk s p - 48 : Nat) : Int) ∧ d = ((pk s (p + 1) - 48 : Nat) : Int) ∧ q = ((pk s (p + 2) - 48 : Nat) : Int)) ∧ Cur w' b s (p + timesN s p) ∧ p + timesN s p ≤ s.size ∧ G2 w w' b l := by
  have hbw := h.cells.2.2.2.2
  have hlw := blk_lt hL
  have hne1 : w.heap.size ≠ b := by omega
  have hne2 : w.heap.size ≠ l := by omega
  have hTN := hide (timesN_at s p)
  generalize hN : timesN s p = N at *
  have HN := hide hN
  clear hN
  have A := hide (And.intro h hL)
  clear h hL
  go_enter Tryz.func184, Tryz.ntmps184
  go_wp2
  go_loopw [6] (fun i wr => ∃ k : Nat, i = .int .i64 k ∧ k ≤ 3 ∧ (∀ j, j < k → inB 49 57 (pk s (p + j)) = true) ∧ Cur wr b s (p + k) ∧ p + k ≤ s.size ∧
      LCell wr l (.int .i64 0) (.int .i64 0) (.int .i64 0) (.slice none 0 0) (.slice none 0 0) (.slice none 0 0) ∧ wr.heap[w.heap.size]? = some (.cells #[dig s p k 0, dig s p k 1, dig s p k 2] 246 (0, 0)) ∧ G2 w wr b l) (fun i _ => 3 - (intOf i).toNat)
  case atStart => exact ⟨0, rfl, by omega, fun j h => by omega, (unhide A).1.alloc _, hp, (Below.heap_alloc _ _ _ hlw).trans (unhide A).2, heap_alloc_new w _, (G2.refl w b l).alloc _⟩
  case round =>
    clear A
    obtain ⟨k, rfl, hk, hall, hC, hle, hLc, hT, hG⟩ := hrel
    have hT1 := hide ((unhide hTN) k hk hall)
    obtain ⟨⟨y0, y1, y2⟩, ⟨f0, f1, f2⟩, qt⟩ := tri0 hT
    obtain ⟨⟨x0, x1, x2, x3, x4, x5⟩, ⟨g0, g1, g2, g3, g4, g5⟩, ql⟩ := six0 hLc
    have H1 := hide (takeFrom_any b s (p + k) 49 57 wr hC hle hs (by omega) (by omega))
    by_cases hlt : k < 3
    · have hc256 := pk_lt s (p + k)
      cases hin : inB 49 57 (pk s (p + k)) with
      | false =>
        rw [hin] at H1
        have hNk : N = k := (unhide hT1).1 hlt hin
        subst hNk
        have F := hide (And.intro hLc hG)
        have hne3 : (N == 3) = false := by simp; omega
        clear hT hC hLc hG hin y0 y1 y2 f0 f1 f2 qt x0 x1 x2 x3 x4 x5 g0 g1 g2 g3 g4 g5 ql
        go_wp2_with fail
        refine (unhide H1).mono ?_
        rintro e w1 ⟨rfl, a1, a2, a3⟩
        have B := hide (And.intro (blk_gr (unhide F).1 a3 (Ne.symm hbl)) (And.intro a1 (And.intro a2 ((unhide F).2.gr a3))))
        clear a1 a2 a3
        go_wp2
        go_ret
        exact ⟨0, 0, 0, ret_bool hne3.symm, (unhide B).1, fun h => absurd h (by omega), (unhide B).2.1, (unhide B).2.2.1, (unhide B).2.2.2⟩
      | true =>
        rw [hin] at H1
        have hofl := offB_lt _ hc256
        have HALL := hide (show ∀ j, j < k + 1 → inB 49 57 (pk s (p + j)) = true by
          intro j hj
          rcases Nat.lt_or_ge j k with h | h
          · exact hall j h
          · obtain rfl : j = k := by omega
            exact hin)
        have F := hide (And.intro hT (And.intro hLc hG))
        clear hT hC hLc hG hin hall
        obtain ⟨o, ho⟩ : ∃ o, o = offB 49 57 (pk s (p + k)) := ⟨_, rfl⟩
        rw [← ho] at H1 hofl
        have HO := hide ho
        clear ho x0 x1 x2 x3 x4 x5 g0 g1 g2 g3 g4 g5 ql
        go_wp2_with fail
        refine (unhide H1).mono ?_
        rintro e w1 ⟨rfl, a1, a2, a3⟩
        have hT4 := blk_gr (unhide F).1 a3 hne1
        obtain ⟨⟨z0, z1, z2⟩, ⟨u0, u1, u2⟩, qz⟩ := tri0 hT4
        have B := hide (And.intro hT4 (And.intro (blk_gr (unhide F).2.1 a3 (Ne.symm hbl)) (And.intro a1 (And.intro a2 ((unhide F).2.2.gr a3)))))
        clear a1 a2 a3 hT4 y0 y1 y2 f0 f1 f2 qt
        have hkk : k = 0 ∨ k = 1 ∨ k = 2 := by omega
        rcases hkk with rfl | rfl | rfl
        · go_wp2
          have hbs := blk_setCell (j := 0) (.int .i64 ((o : Int) + 1)) (unhide B).1
          refine ⟨⟨1, by first | rfl | go_num, by omega, unhide HALL, (unhide B).2.2.1.setCell _ _ _ (Ne.symm hne1), (unhide B).2.2.2.1, (Below.heap_setCell _ _ _ _ (Ne.symm hne2)).trans (unhide B).2.1, ?_, (unhide B).2.2.2.2.setn _ _ _ (Nat.le_refl _)⟩, by simp [intOf]⟩
          rw [hbs]
          have ho := unhide HO
          simp [dig, ho]
        · go_wp2
          have hbs := blk_setCell (j := 1) (.int .i64 ((o : Int) + 1)) (unhide B).1
          refine ⟨⟨2, by first | rfl | go_num, by omega, unhide HALL, (unhide B).2.2.1.setCell _ _ _ (Ne.symm hne1), (unhide B).2.2.2.1, (Below.heap_setCell _ _ _ _ (Ne.symm hne2)).trans (unhide B).2.1, ?_, (unhide B).2.2.2.2.setn _ _ _ (Nat.le_refl _)⟩, by simp [intOf]⟩
          rw [hbs]
          have ho := unhide HO
          simp [dig, ho]
        · go_wp2
          have hbs := blk_setCell (j := 2) (.int .i64 ((o : Int) + 1)) (unhide B).1
          refine ⟨⟨3, by first | rfl | go_num, by omega, unhide HALL, (unhide B).2.2.1.setCell _ _ _ (Ne.symm hne1), (unhide B).2.2.2.1, (Below.heap_setCell _ _ _ _ (Ne.symm hne2)).trans (unhide B).2.1, ?_, (unhide B).2.2.2.2.setn _ _ _ (Nat.le_refl _)⟩, by simp [intOf]⟩
          rw [hbs]
          have ho := unhide HO
          simp [dig, ho]
    · obtain rfl : k = 3 := by omega
      have HN3 := hide ((unhide hT1).2 rfl)
      have hd : ∀ j, j < 3 → dig s p 3 j = .int .i64 ((pk s (p + j) - 48 : Nat) : Int) := by
        intro j hj
        have hin := hall j hj
        unfold dig
        rw [if_pos hj]
        unfold offB
        rw [hin, if_pos rfl]
        unfold inB at hin
        simp only [Bool.and_eq_true, decide_eq_true_eq] at hin
        rw [show pk s (p + j) - 49 + 1 = pk s (p + j) - 48 by omega]
      have e0 := hd 0 (by omega)
      have e1 := hd 1 (by omega)
      have e2 := hd 2 (by omega)
      rw [e0] at y0
      rw [e1] at y1
      rw [e2] at y2
      simp only [Nat.add_zero] at y0
      have hl1 := blk_setCell (j := 0) (.int .i64 ((pk s p - 48 : Nat) : Int)) hLc
      have hl2 := blk_setCell (j := 1) (.int .i64 ((pk s (p + 1) - 48 : Nat) : Int)) hl1
      have hl3 := blk_setCell (j := 2) (.int .i64 ((pk s (p + 2) - 48 : Nat) : Int)) hl2
      have F := hide (And.intro hl3 (And.intro hC (And.intro hle hG)))
      clear hT hC hLc hG hl1 hl2 hl3 e0 e1 e2 hd H1 hT1
      obtain ⟨A0, hA0⟩ : ∃ A0, A0 = pk s p - 48 := ⟨_, rfl⟩
      obtain ⟨A1, hA1⟩ : ∃ A1, A1 = pk s (p + 1) - 48 := ⟨_, rfl⟩
      obtain ⟨A2, hA2⟩ : ∃ A2, A2 = pk s (p + 2) - 48 := ⟨_, rfl⟩
      rw [← hA0] at y0 F
      rw [← hA1] at y1 F
      rw [← hA2] at y2 F
      have HA := hide (And.intro hA0 (And.intro hA1 hA2))
      clear hA0 hA1 hA2
      go_wp2
      go_ret
      obtain ⟨F1, F2, F3, F4⟩ := unhide F
      obtain ⟨g1, g2, g3⟩ := unhide HA
      exact ⟨_, _, _, ret_bool (by rw [unhide HN3]; rfl), F1, fun _ => ⟨by rw [g1], by rw [g2], by rw [g3]⟩, by rw [unhide HN3]; exact ((F2.setCell _ _ _ hbl).setCell _ _ _ hbl).setCell _ _ _ hbl, by rw [unhide HN3]; exact F3, ((F4.set _ _).set _ _).set _ _⟩
end Go.Proofs.YtkbpocecbcaiiaaGreatDoor

/-
  THE WALK OVER plan's cursor: routes.
-/
namespace Go.Proofs.YtkbpocecbcaiiaaGreatDoor
open Go.RowKit

theorem Tryz.infoRt : (Tryz.prog.info? 124).map (fun i => (i.zero, i.size, i.bytes)) = some (some (.agg #[.int .i64 0, .slice none 0 0, .slice none 0 0]), 3, 56) := by kernel_rfl

def Rts (w : World) (v : Value) (l : List Rt) : Prop := SlAt 124 3 CRt w v l
theorem Rts.keep {w w' : World} {v : Value} {l : List Rt} (h : Rts w v l) (k : Keeps 124 w w') (k1 : Keeps 196 w w') : Rts w' v l := SlAt.keep h k (fun _ _ h => h.keep k1)

def rtsL (s : ByteArray) : Nat → Nat → Bool × Nat × List Rt
  | 0, p => (false, p, [])
  | f + 1, p => if (routeL s p).1 = false then (false, (routeL s p).2.1, [])
    else if (pk s (routeL s p).2.1 == 44) = true then ((rtsL s f ((routeL s p).2.1 + 1)).1, (rtsL s f ((routeL s p).2.1 + 1)).2.1, (routeL s p).2.2 :: (rtsL s f ((routeL s p).2.1 + 1)).2.2)
    else (true, (routeL s p).2.1, [(routeL s p).2.2])

theorem adv_ge (c : Bool) (p : Nat) : p ≤ adv c p := by unfold adv; split <;> omega
theorem pathL_ge (s : ByteArray) : ∀ f p, p ≤ (pathL s f p).2 := by
  intro f
  induction f with
  | zero => intro p; exact Nat.le_refl _
  | succ f ih =>
    intro p
    unfold pathL
    split
    · exact Nat.le_trans (Nat.le_trans (by omega) (adv_ge _ (p + 1))) (ih _)
    · exact Nat.le_refl _
theorem flankL_ge (s : ByteArray) : ∀ f p, p ≤ (flankL s f p).2.1 := by
  intro f
  induction f with
  | zero => intro p; exact Nat.le_refl _
  | succ f ih =>
    intro p
    unfold flankL
    split
    · split
      · show p ≤ p + 1; omega
      · exact Nat.le_trans (by omega) (ih (p + 2))
    · exact Nat.le_refl _
theorem routeL_ge (s : ByteArray) (p : Nat) (h : (routeL s p).1 = true) : p + 2 ≤ (routeL s p).2.1 := by
  unfold routeL at h ⊢
  have h1 := pathL_ge s 300 (p + 2)
  have h2 := flankL_ge s 300 ((pathL s 300 (p + 2)).2 + 1)
  by_cases c1 : inB 97 112 (pk s p) = false
  · rw [if_pos c1] at h; cases h
  rw [if_neg c1] at h ⊢
  by_cases c2 : (pk s (p + 1) == 62) = false
  · rw [if_pos c2] at h; cases h
  rw [if_neg c2] at h ⊢
  by_cases c3 : (pathL s 300 (p + 2)).1.length = 0
  · rw [if_pos c3] at h; cases h
  rw [if_neg c3] at h ⊢
  split
  · exact h1
  · show p + 2 ≤ (flankL s 300 ((pathL s 300 (p + 2)).2 + 1)).2.1; omega

set_option maxHeartbeats 1000000 in
theorem routes_c (b l : Nat) (s : ByteArray) (p : Nat) (t d q : Int) (as_ : Option Addr) (ns cs : Nat) (w : World) (h : Cur w b s p) (hL : LCell w l (.int .i64 t) (.int .i64 d) (.int .i64 q) (.slice as_ ns cs) (.slice none 0 0) (.slice none 0 0)) (hs : s.size ≤ 256) (hp : p ≤ s.size) (hbl : b ≠ l) :
    Calls Tryz.prog 187 #[.pointer (some ⟨b, 0, none⟩), .pointer (some ⟨l, 0, none⟩)] w fun e w' => ∃ (a1 : Option Addr) (n1 c1 : Nat), e = .returned (.bool (rtsL s 300 p).1) ∧
      LCell w' l (.int .i64 t) (.int .i64 d) (.int .i64 q) (.slice as_ ns cs) (.slice a1 n1 c1) (.slice none 0 0) ∧ ((rtsL s 300 p).1 = true → Rts w' (.slice a1 n1 c1) (rtsL s 300 p).2.2) ∧ Cur w' b s (rtsL s 300 p).2.1 ∧ (rtsL s 300 p).2.1 ≤ s.size ∧ G2 w w' b l := by
  have hbw := h.cells.2.2.2.2
  have hlw := blk_lt hL
  obtain ⟨i0, hi0⟩ := info_parts Tryz.infoRt
  have HI := hide hi0
  clear hi0
  obtain ⟨Z, hZ⟩ : ∃ Z, Z = rtsL s 300 p := ⟨_, rfl⟩
  rw [← hZ]
  have A := hide (And.intro h (And.intro hL hZ))
  clear h hL hZ
  go_enter Tryz.func187, Tryz.ntmps187
  go_wp2
  go_loopg [5] 300 (fun f m wr => ∃ (mv : Bool) (q' : Nat) (acc : List Rt) (css : List (List Value)) (vr : Value), m = .bool mv ∧ acc.length ≤ q' ∧ q' ≤ s.size ∧ (mv = true → s.size < q' + f) ∧
      wr.ownsRow w.heap.size 124 3 vr acc.length css.flatten ∧ All2 (CRt wr) acc css ∧ (∀ c, c ∈ css → c.length = 3) ∧
      (mv = true → Z = ((rtsL s f q').1, (rtsL s f q').2.1, acc ++ (rtsL s f q').2.2)) ∧ (mv = false → Z = (true, q', acc)) ∧
      LCell wr l (.int .i64 t) (.int .i64 d) (.int .i64 q) (.slice as_ ns cs) vr (.slice none 0 0) ∧ Cur wr b s q' ∧ G2 w wr b l)
  case atStart => exact ⟨true, p, [], [], _, rfl, Nat.zero_le _, hp, fun _ => by omega, World.ownsRow_nil _ _ _ _, trivial, by simp, fun _ => (unhide A).2.2, fun h => (by cases h), (unhide A).2.1, (unhide A).1, G2.refl _ _ _⟩
  case round =>
    clear A
    obtain ⟨mv, q', acc, css, vr, rfl, hac, hq, hf, hown, hA, hcl, hZ1, hZ2, hLc, hC, hG⟩ := hrel
    obtain ⟨av, cv, hvr⟩ := slice_of_own hown
    subst hvr
    have hsz := hG.2.2.2.1
    cases mv with
    | false =>
      have HZ := hide (hZ2 rfl)
      have F := hide (And.intro hLc (And.intro (show Rts wr (.slice av acc.length cv) acc from SlAt.ofOwnN hown hA hcl rfl) (And.intro hC (And.intro hq hG))))
      clear hown hA hcl hZ1 hZ2 hLc hC hG hf
      go_wp2
      go_ret
      obtain ⟨F1, F2, F3, F4, F5⟩ := unhide F
      exact ⟨av, acc.length, cv, by rw [unhide HZ] <;> rfl, F1, fun _ => by rw [unhide HZ]; exact F2, by rw [unhide HZ]; exact F3, by rw [unhide HZ]; exact F4, F5⟩
    | true =>
      have hf' := hf rfl
      obtain ⟨f, hfe⟩ : ∃ f, gk = f + 1 := ⟨gk - 1, by omega⟩
      subst hfe
      have HZ := hide (hZ1 rfl)
      have H1 := hide (route_c b s q' wr hC hs hq)
      have HGE := hide (routeL_ge s q')
      have F := hide (And.intro hLc (And.intro hA (And.intro hcl hG)))
      have hTc := hide hC.typed
      clear hA hcl hZ1 hZ2 hLc hC hG hf
      obtain ⟨RL, hRL⟩ : ∃ RL, RL = routeL s q' := ⟨_, rfl⟩
      have HRL := hide hRL
      rw [← hRL] at H1 HGE
      clear hRL
      go_wp2_with fail
      refine (unhide H1).mono ?_
      rintro e w1 ⟨tt, a1, a2, n1, n2, c1, c2, rfl, hR, hC1, hle1, hg1⟩
      have hL1 := blk_gr (unhide F).1 hg1 (Ne.symm hbl)
      have hown1 := own_gr hown hg1 hbw
      have hG1 := (unhide F).2.2.2.gr hg1
      have hk1 := keeps_gr (e := 196) (unhide hTc) hg1 (by decide)
      have F1 := hide (And.intro hL1 (And.intro hC1 (And.intro hle1 (And.intro hG1 (And.intro hR hk1)))))
      clear hR hC1 hle1 hg1 hown hG1 hk1
      have hsz1 : w.heap.size ≤ w1.heap.size := (unhide F1).2.2.2.1.2.2.2.1
      cases hok : RL.1 with
      | false =>
        have HZ2 := hide (show Z = (false, RL.2.1, acc) by rw [unhide HZ]; simp [rtsL, ← unhide HRL, hok])
        clear hok HZ hown1
        go_wp2
        go_ret
        exact ⟨av, acc.length, cv, by rw [unhide HZ2] <;> rfl, (Below.heap_alloc _ _ _ (blk_lt (unhide F1).1)).trans (unhide F1).1, fun h => absurd h (by rw [unhide HZ2]; simp), by rw [unhide HZ2]; exact (unhide F1).2.1.alloc _, by rw [unhide HZ2]; exact (unhide F1).2.2.1, (unhide F1).2.2.2.1.alloc _⟩
      | true =>
        have HOK := hide hok
        have HR := hide ((unhide F1).2.2.2.2.1 hok)
        obtain ⟨⟨y0, y1, y2, y3, y4, y5⟩, ⟨f0, f1, f2, f3, f4, f5⟩, ql⟩ := six0 hL1
        have hlne : l < w1.heap.size := ql
        clear hok hL1
        go_wp2
        go_region_law (refine step_append_own rfl (.tmp 20) (.tmp 22) 80 rfl w.heap.size 124 i0 (.agg #[.int .i64 0, .slice none 0 0, .slice none 0 0]) 3 56 Tryz.underlying80 (unhide HI).1 (unhide HI).2.1 (unhide HI).2.2.1 (unhide HI).2.2.2 rfl (by decide) (.slice av acc.length cv) _ _ (by simp [Act.eval]) (((hown1.alloc _).alloc _).drew) ⟨w1.heap.size + 1, 0, none⟩ 1 1 [.int .i64 tt, .slice a1 n1 c1, .slice a2 n2 c2] (by simp [Act.eval]) rfl (by exact cells_new_at _ [.int .i64 tt, .slice a1 n1 c1, .slice a2 n2 c2] _ _ (by simp)) (by simp [Value.oneCell']) (by unfold maxLen; omega) (by omega) (by simp; omega) ?_; intro v' w2 hown' hgrow; have hg2 := grown_drew hgrow; have hL2 := (append_keeps (hown1.alloc _) hg2 (by decide) _ _ _ ((Below.heap_alloc _ _ _ hlne).trans (unhide F1).1)).trans ((Below.heap_alloc _ _ _ hlne).trans (unhide F1).1); obtain ⟨⟨r0, r1, r2, r3, r4, r5⟩, ⟨g0, g1, g2, g3, g4, g5⟩, qs1⟩ := six0 hL2; obtain ⟨av', cv', hv'⟩ := slice_of_own hown'; subst hv'; have HF2 := hide (And.intro hL2 (And.intro ((((unhide F1).2.1.alloc _).own (hown1.alloc _) hg2 (by decide))) (((unhide F1).2.2.2.1.alloc _).own (Nat.le_refl _) (hown1.alloc _) hg2))); clear hL2)
        all_goals
          have hT3 : Typed w2 l 83 := ⟨_, _, (unhide HF2).1⟩
          have hC3 := (unhide HF2).2.1.setCell l 4 (.slice av' (acc.length + 1) cv') hbl
          have hL3 := hide (blk_setCell (j := 4) (.slice av' (acc.length + 1) cv') (unhide HF2).1)
          have hG3 := hide ((unhide HF2).2.2.set 4 (.slice av' (acc.length + 1) cv'))
          have hown3 := hide (own_set hown' l 4 (.slice av' (acc.length + 1) cv') hT3 (by decide))
          have kk1 := ((Keeps.alloc 196 w1 _).trans (append_keeps (hown1.alloc _) hg2 (by decide))).trans (Keeps.setCell ⟨l, 4, none⟩ (.slice av' (acc.length + 1) cv') hT3 (by decide))
          have hA3 := hide (All2.snoc ((unhide HR).keep kk1) (All2.mono (fun _ _ h => (h.keep (unhide F1).2.2.2.2.2).keep kk1) (unhide F).2.1))
          have HT := hide (take_any b s RL.2.1 44 _ hC3 hs (unhide F1).2.2.1 (by omega))
          have hTc3 := hide hC3.typed
          clear hown' hgrow hg2 hown1 hC3 kk1 hT3
          go_wp2_with fail
          refine (unhide HT).mono ?_
          rintro e w4 ⟨rfl, b1, b2, b3⟩
          have hge := unhide HGE (unhide HOK)
          have hae := adv_ge (pk s RL.2.1 == 44) RL.2.1
          have hk4 := keeps_gr (e := 196) (unhide hTc3) b3 (by decide)
          have hown4 := own_gr (unhide hown3) b3 hbw
          go_wp2
          go_roundg f
          case measure => omega
          case rel =>
            refine ⟨(pk s RL.2.1 == 44), adv (pk s RL.2.1 == 44) RL.2.1, acc ++ [RL.2.2], css ++ [[.int .i64 tt, .slice a1 n1 c1, .slice a2 n2 c2]], _, rfl, by simp; omega, b2, fun _ => by omega, ?_, All2.mono (fun _ _ h => h.keep hk4) (unhide hA3), ?_, fun hm => ?_, fun hm => ?_, blk_gr (unhide hL3) b3 (Ne.symm hbl), b1, (unhide hG3).gr b3⟩
            · rw [List.flatten_append]; simpa using hown4
            · intro c hc
              rcases List.mem_append.1 hc with h | h
              · exact (unhide F).2.2.1 c h
              · simp at h; subst h; rfl
            · have e1 : adv (pk s RL.2.1 == 44) RL.2.1 = RL.2.1 + 1 := by rw [hm]; rfl
              rw [e1, unhide HZ]
              simp only [rtsL, ← unhide HRL, unhide HOK, hm]
              simp
            · have e1 : adv (pk s RL.2.1 == 44) RL.2.1 = RL.2.1 := by rw [hm]; rfl
              rw [e1, unhide HZ]
              simp only [rtsL, ← unhide HRL, unhide HOK, hm]
              simp
end Go.Proofs.YtkbpocecbcaiiaaGreatDoor

/-
  THE WALK OVER plan's cursor: trains.
-/
namespace Go.Proofs.YtkbpocecbcaiiaaGreatDoor
open Go.RowKit

theorem Tryz.infoTn : (Tryz.prog.info? 218).map (fun i => (i.zero, i.size, i.bytes)) = some (some (.agg #[.int .i64 0, .slice none 0 0]), 2, 32) := by kernel_rfl

def Tns (w : World) (v : Value) (l : List Tn) : Prop := SlAt 218 2 CTn w v l
theorem Tns.keep {w w' : World} {v : Value} {l : List Tn} (h : Tns w v l) (k : Keeps 218 w w') (k1 : Keeps 3 w w') : Tns w' v l := SlAt.keep h k (fun _ _ h => h.keep k1)

def tnsL (s : ByteArray) : Nat → Nat → Bool × Nat × List Tn
  | 0, p => (false, p, [])
  | f + 1, p => if (trainL s p).1 = false then (false, (trainL s p).2.1, [])
    else if (pk s (trainL s p).2.1 == 44) = true then ((tnsL s f ((trainL s p).2.1 + 1)).1, (tnsL s f ((trainL s p).2.1 + 1)).2.1, (trainL s p).2.2 :: (tnsL s f ((trainL s p).2.1 + 1)).2.2)
    else (true, (trainL s p).2.1, [(trainL s p).2.2])

theorem capsL_ge (s : ByteArray) : ∀ f p, p ≤ (capsL s f p).2 := by
  intro f
  induction f with
  | zero => intro p; exact Nat.le_refl _
  | succ f ih =>
    intro p
    unfold capsL
    split
    · exact Nat.le_trans (by omega) (ih (p + 1))
    · exact Nat.le_refl _
theorem trainL_ge (s : ByteArray) (p : Nat) (h : (trainL s p).1 = true) : p + 1 ≤ (trainL s p).2.1 := by
  unfold trainL at h ⊢
  have h1 := capsL_ge s 300 (p + 1)
  by_cases c1 : inB 97 112 (pk s p) = false
  · rw [if_pos c1] at h; cases h
  rw [if_neg c1]; exact h1

set_option maxHeartbeats 1000000 in
theorem trains_c (b l : Nat) (s : ByteArray) (p : Nat) (t d q : Int) (as_ ar : Option Addr) (ns cs nr cr : Nat) (w : World) (h : Cur w b s p) (hL : LCell w l (.int .i64 t) (.int .i64 d) (.int .i64 q) (.slice as_ ns cs) (.slice ar nr cr) (.slice none 0 0)) (hs : s.size ≤ 256) (hp : p ≤ s.size) (hbl : b ≠ l) :
    Calls Tryz.prog 188 #[.pointer (some ⟨b, 0, none⟩), .pointer (some ⟨l, 0, none⟩)] w fun e w' => ∃ (a1 : Option Addr) (n1 c1 : Nat), e = .returned (.bool (tnsL s 300 p).1) ∧
      LCell w' l (.int .i64 t) (.int .i64 d) (.int .i64 q) (.slice as_ ns cs) (.slice ar nr cr) (.slice a1 n1 c1) ∧ ((tnsL s 300 p).1 = true → Tns w' (.slice a1 n1 c1) (tnsL s 300 p).2.2) ∧ Cur w' b s (tnsL s 300 p).2.1 ∧ (tnsL s 300 p).2.1 ≤ s.size ∧ G2 w w' b l := by
  have hbw := h.cells.2.2.2.2
  have hlw := blk_lt hL
  obtain ⟨i0, hi0⟩ := info_parts Tryz.infoTn
  have HI := hide hi0
  clear hi0
  obtain ⟨Z, hZ⟩ : ∃ Z, Z = tnsL s 300 p := ⟨_, rfl⟩
  rw [← hZ]
  have A := hide (And.intro h (And.intro hL hZ))
  clear h hL hZ
  go_enter Tryz.func188, Tryz.ntmps188
  go_wp2
  go_loopg [5] 300 (fun f m wr => ∃ (mv : Bool) (q' : Nat) (acc : List Tn) (css : List (List Value)) (vr : Value), m = .bool mv ∧ acc.length ≤ q' ∧ q' ≤ s.size ∧ (mv = true → s.size < q' + f) ∧
      wr.ownsRow w.heap.size 218 2 vr acc.length css.flatten ∧ All2 (CTn wr) acc css ∧ (∀ c, c ∈ css → c.length = 2) ∧
      (mv = true → Z = ((tnsL s f q').1, (tnsL s f q').2.1, acc ++ (tnsL s f q').2.2)) ∧ (mv = false → Z = (true, q', acc)) ∧
      LCell wr l (.int .i64 t) (.int .i64 d) (.int .i64 q) (.slice as_ ns cs) (.slice ar nr cr) vr ∧ Cur wr b s q' ∧ G2 w wr b l)
  case atStart => exact ⟨true, p, [], [], _, rfl, Nat.zero_le _, hp, fun _ => by omega, World.ownsRow_nil _ _ _ _, trivial, by simp, fun _ => (unhide A).2.2, fun h => (by cases h), (unhide A).2.1, (unhide A).1, G2.refl _ _ _⟩
  case round =>
    clear A
    obtain ⟨mv, q', acc, css, vr, rfl, hac, hq, hf, hown, hA, hcl, hZ1, hZ2, hLc, hC, hG⟩ := hrel
    obtain ⟨av, cv, hvr⟩ := slice_of_own hown
    subst hvr
    have hsz := hG.2.2.2.1
    cases mv with
    | false =>
      have HZ := hide (hZ2 rfl)
      have F := hide (And.intro hLc (And.intro (show Tns wr (.slice av acc.length cv) acc from SlAt.ofOwnN hown hA hcl rfl) (And.intro hC (And.intro hq hG))))
      clear hown hA hcl hZ1 hZ2 hLc hC hG hf
      go_wp2
      go_ret
      obtain ⟨F1, F2, F3, F4, F5⟩ := unhide F
      exact ⟨av, acc.length, cv, by rw [unhide HZ] <;> rfl, F1, fun _ => by rw [unhide HZ]; exact F2, by rw [unhide HZ]; exact F3, by rw [unhide HZ]; exact F4, F5⟩
    | true =>
      have hf' := hf rfl
      obtain ⟨f, hfe⟩ : ∃ f, gk = f + 1 := ⟨gk - 1, by omega⟩
      subst hfe
      have HZ := hide (hZ1 rfl)
      have H1 := hide (train_c b s q' wr hC hs hq)
      have HGE := hide (trainL_ge s q')
      have F := hide (And.intro hLc (And.intro hA (And.intro hcl hG)))
      have hTc := hide hC.typed
      clear hA hcl hZ1 hZ2 hLc hC hG hf
      obtain ⟨RL, hRL⟩ : ∃ RL, RL = trainL s q' := ⟨_, rfl⟩
      have HRL := hide hRL
      rw [← hRL] at H1 HGE
      clear hRL
      go_wp2_with fail
      refine (unhide H1).mono ?_
      rintro e w1 ⟨tt, a1, n1, c1, rfl, hR, hC1, hle1, hg1⟩
      have hL1 := blk_gr (unhide F).1 hg1 (Ne.symm hbl)
      have hown1 := own_gr hown hg1 hbw
      have hG1 := (unhide F).2.2.2.gr hg1
      have hk1 := keeps_gr (e := 3) (unhide hTc) hg1 (by decide)
      have F1 := hide (And.intro hL1 (And.intro hC1 (And.intro hle1 (And.intro hG1 (And.intro hR hk1)))))
      clear hR hC1 hle1 hg1 hown hG1 hk1
      have hsz1 : w.heap.size ≤ w1.heap.size := (unhide F1).2.2.2.1.2.2.2.1
      cases hok : RL.1 with
      | false =>
        have HZ2 := hide (show Z = (false, RL.2.1, acc) by rw [unhide HZ]; simp [tnsL, ← unhide HRL, hok])
        clear hok HZ hown1
        go_wp2
        go_ret
        exact ⟨av, acc.length, cv, by rw [unhide HZ2] <;> rfl, (Below.heap_alloc _ _ _ (blk_lt (unhide F1).1)).trans (unhide F1).1, fun h => absurd h (by rw [unhide HZ2]; simp), by rw [unhide HZ2]; exact (unhide F1).2.1.alloc _, by rw [unhide HZ2]; exact (unhide F1).2.2.1, (unhide F1).2.2.2.1.alloc _⟩
      | true =>
        have HOK := hide hok
        have HR := hide ((unhide F1).2.2.2.2.1 hok)
        obtain ⟨⟨y0, y1, y2, y3, y4, y5⟩, ⟨f0, f1, f2, f3, f4, f5⟩, ql⟩ := six0 hL1
        have hlne : l < w1.heap.size := ql
        clear hok hL1
        go_wp2
        go_region_law (refine step_append_own rfl (.tmp 20) (.tmp 22) 81 rfl w.heap.size 218 i0 (.agg #[.int .i64 0, .slice none 0 0]) 2 32 Tryz.underlying81 (unhide HI).1 (unhide HI).2.1 (unhide HI).2.2.1 (unhide HI).2.2.2 rfl (by decide) (.slice av acc.length cv) _ _ (by simp [Act.eval]) (((hown1.alloc _).alloc _).drew) ⟨w1.heap.size + 1, 0, none⟩ 1 1 [.int .i64 tt, .slice a1 n1 c1] (by simp [Act.eval]) rfl (by exact cells_new_at _ [.int .i64 tt, .slice a1 n1 c1] _ _ (by simp)) (by simp [Value.oneCell']) (by unfold maxLen; omega) (by omega) (by simp; omega) ?_; intro v' w2 hown' hgrow; have hg2 := grown_drew hgrow; have hL2 := (append_keeps (hown1.alloc _) hg2 (by decide) _ _ _ ((Below.heap_alloc _ _ _ hlne).trans (unhide F1).1)).trans ((Below.heap_alloc _ _ _ hlne).trans (unhide F1).1); obtain ⟨⟨r0, r1, r2, r3, r4, r5⟩, ⟨g0, g1, g2, g3, g4, g5⟩, qs1⟩ := six0 hL2; obtain ⟨av', cv', hv'⟩ := slice_of_own hown'; subst hv'; have HF2 := hide (And.intro hL2 (And.intro ((((unhide F1).2.1.alloc _).own (hown1.alloc _) hg2 (by decide))) (((unhide F1).2.2.2.1.alloc _).own (Nat.le_refl _) (hown1.alloc _) hg2))); clear hL2)
        all_goals
          have hT3 : Typed w2 l 83 := ⟨_, _, (unhide HF2).1⟩
          have hC3 := (unhide HF2).2.1.setCell l 5 (.slice av' (acc.length + 1) cv') hbl
          have hL3 := hide (blk_setCell (j := 5) (.slice av' (acc.length + 1) cv') (unhide HF2).1)
          have hG3 := hide ((unhide HF2).2.2.set 5 (.slice av' (acc.length + 1) cv'))
          have hown3 := hide (own_set hown' l 5 (.slice av' (acc.length + 1) cv') hT3 (by decide))
          have kk1 := ((Keeps.alloc 3 w1 _).trans (append_keeps (hown1.alloc _) hg2 (by decide))).trans (Keeps.setCell ⟨l, 5, none⟩ (.slice av' (acc.length + 1) cv') hT3 (by decide))
          have hA3 := hide (All2.snoc ((unhide HR).keep kk1) (All2.mono (fun _ _ h => (h.keep (unhide F1).2.2.2.2.2).keep kk1) (unhide F).2.1))
          have HT := hide (take_any b s RL.2.1 44 _ hC3 hs (unhide F1).2.2.1 (by omega))
          have hTc3 := hide hC3.typed
          clear hown' hgrow hg2 hown1 hC3 kk1 hT3
          go_wp2_with fail
          refine (unhide HT).mono ?_
          rintro e w4 ⟨rfl, b1, b2, b3⟩
          have hge := unhide HGE (unhide HOK)
          have hae := adv_ge (pk s RL.2.1 == 44) RL.2.1
          have hk4 := keeps_gr (e := 3) (unhide hTc3) b3 (by decide)
          have hown4 := own_gr (unhide hown3) b3 hbw
          go_wp2
          go_roundg f
          case measure => omega
          case rel =>
            refine ⟨(pk s RL.2.1 == 44), adv (pk s RL.2.1 == 44) RL.2.1, acc ++ [RL.2.2], css ++ [[.int .i64 tt, .slice a1 n1 c1]], _, rfl, by simp; omega, b2, fun _ => by omega, ?_, All2.mono (fun _ _ h => h.keep hk4) (unhide hA3), ?_, fun hm => ?_, fun hm => ?_, blk_gr (unhide hL3) b3 (Ne.symm hbl), b1, (unhide hG3).gr b3⟩
            · rw [List.flatten_append]; simpa using hown4
            · intro c hc
              rcases List.mem_append.1 hc with h | h
              · exact (unhide F).2.2.1 c h
              · simp at h; subst h; rfl
            · have e1 : adv (pk s RL.2.1 == 44) RL.2.1 = RL.2.1 + 1 := by rw [hm]; rfl
              rw [e1, unhide HZ]
              simp only [tnsL, ← unhide HRL, unhide HOK, hm]
              simp
            · have e1 : adv (pk s RL.2.1 == 44) RL.2.1 = RL.2.1 := by rw [hm]; rfl
              rw [e1, unhide HZ]
              simp only [tnsL, ← unhide HRL, unhide HOK, hm]
              simp
end Go.Proofs.YtkbpocecbcaiiaaGreatDoor
