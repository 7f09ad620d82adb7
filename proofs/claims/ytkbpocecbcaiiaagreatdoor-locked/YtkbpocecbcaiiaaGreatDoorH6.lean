import Derived.Test.YtkbpocecbcaiiaaGreatDoorH2
import Derived.Deep.LoopGhost
namespace Go.Proofs.YtkbpocecbcaiiaaGreatDoor
open Go.RowKit
def Cur (w : World) (b : Nat) (s : ByteArray) (p : Nat) : Prop := w.heap[b]? = some (.cells #[.string s, .int .i64 p] 211 (0, 0))
def pk (s : ByteArray) (p : Nat) : Nat := (s.data.toList.getD p 0).toNat
theorem pk_lt (s : ByteArray) (p : Nat) : pk s p < 256 := UInt8.toNat_lt _
theorem pk_in (s : ByteArray) (p : Nat) (h : p < s.size) : pk s p = s[p].toNat := by
  unfold pk
  rw [List.getD_eq_getElem?_getD, List.getElem?_eq_getElem (by simpa using h)]; rfl
theorem pk_end (s : ByteArray) (p : Nat) (h : ¬ p < s.size) : pk s p = 0 := by
  unfold pk
  rw [List.getD_eq_getElem?_getD, List.getElem?_eq_none (by simp; omega)]; rfl
theorem pk_pos (s : ByteArray) (p : Nat) (h : pk s p ≠ 0) : p < s.size := by
  rcases Nat.lt_or_ge p s.size with h' | h'
  · exact h'
  · exact absurd (pk_end s p (by omega)) h
theorem Cur.cells {w : World} {b : Nat} {s : ByteArray} {p : Nat} (h : Cur w b s p) : w.cell? ⟨b, 0, none⟩ = some (.string s) /\ w.cell? ⟨b, 1, none⟩ = some (.int .i64 p) /\ w.frozen? ⟨b, 0, none⟩ = false /\ w.frozen? ⟨b, 1, none⟩ = false /\ b < w.heap.size := by
  unfold Cur at h
  refine ⟨cell_of_block h 0, cell_of_block h 1, by simp [World.frozen?, h], by simp [World.frozen?, h], ?_⟩
  rcases Nat.lt_or_ge b w.heap.size with h' | h'
  · exact h'
  · rw [Array.getElem?_eq_none h'] at h; cases h
theorem Cur.set {w : World} {b : Nat} {s : ByteArray} {p : Nat} (h : Cur w b s p) (q : Nat) : Cur (w.setCell ⟨b, 1, none⟩ (.int .i64 q)) b s q := by
  unfold Cur at h ⊢
  rw [heap_setCell_same w b 1 _ _ _ h]; rfl
theorem ret_ib {a b : Int} {c : Bool} (h : a = b) : Ending.returned (.tuple #[.int .i64 a, .bool c]) = .returned (.tuple #[.int .i64 b, .bool c]) := by rw [h]
theorem gr_refl (w : World) (r : Option Nat) : w.grownBy w r := ⟨rfl, rfl, rfl, Nat.le_refl _, fun _ _ _ => rfl⟩
theorem gr_trans {a b c : World} {r : Option Nat} (h : a.grownBy b r) (k : b.grownBy c r) : a.grownBy c r :=
  ⟨k.os.trans h.os, k.tape.trans h.tape, k.output.trans h.output, Nat.le_trans h.size k.size, fun i hi hn => (k.block i (Nat.lt_of_lt_of_le hi h.size) hn).trans (h.block i hi hn)⟩
theorem gr_set (w : World) (b j : Nat) (u : Value) : w.grownBy (w.setCell ⟨b, j, none⟩ u) (some b) :=
  ⟨rfl, rfl, rfl, by simp [World.setCell], fun k _ hn => Below.heap_setCell _ _ _ _ (fun e => hn (by rw [e]))⟩
theorem gr_drewN (w : World) (n : Nat) (r : Option Nat) : w.grownBy (w.drewN n) r := ⟨rfl, rfl, rfl, Nat.le_refl _, fun _ _ _ => rfl⟩
theorem gr_none {w w' : World} (h : w.grownBy w' none) (r : Option Nat) : w.grownBy w' r := ⟨h.os, h.tape, h.output, h.size, fun k hk _ => h.block k hk (by simp)⟩
theorem Cur.gr {w w' : World} {b : Nat} {s : ByteArray} {p : Nat} {r : Option Nat} (h : Cur w b s p) (hg : w.grownBy w' r) (hn : some b ≠ r) : Cur w' b s p := by
  have := h.cells.2.2.2.2
  unfold Cur at h ⊢
  rw [hg.block b this hn]; exact h
set_option maxHeartbeats 400000 in
theorem peek_any (b : Nat) (s : ByteArray) (p : Nat) (w : World) (h : Cur w b s p) (hp : p <= s.size) :
    Calls Tryz.prog 205 #[.pointer (some ⟨b, 0, none⟩)] w fun e w' => e = .returned (.int .u8 (pk s p)) /\ w.grownBy w' none := by
  obtain ⟨h0, h1, -, -, hb⟩ := h.cells
  clear h
  by_cases hlt : p < s.size
  · have HP := hide (pk_in s p hlt)
    have d : decide ((s.size : Int) <= (p : Int)) = false := by simp; omega
    have d0 : (0 : Int) <= p := by omega
    have d1 : (p : Int) < s.size := by omega
    go_enter Tryz.func205, Tryz.ntmps205
    go_wp2
    go_quiet (fail)
    go_wp2
    go_quiet (fail)
    go_wp2
    go_ret
    exact ⟨ret_int (by rw [uh HP]), gr_trans (gr_drewN _ _ _) (gr_drewN _ _ _)⟩
  · have HP := hide (pk_end s p hlt)
    have d : decide ((s.size : Int) <= (p : Int)) = true := by simp; omega
    go_enter Tryz.func205, Tryz.ntmps205
    go_wp2
    go_quiet (fail)
    go_wp2
    go_ret
    exact ⟨ret_int (by rw [uh HP]; rfl), gr_drewN _ _ _⟩
def adv (c : Bool) (p : Nat) : Nat := if c then p + 1 else p
set_option maxHeartbeats 400000 in
theorem take_any (b : Nat) (s : ByteArray) (p want : Nat) (w : World) (h : Cur w b s p) (hs : s.size <= 256) (hp : p <= s.size) (hw : want ≠ 0) :
    Calls Tryz.prog 185 #[.pointer (some ⟨b, 0, none⟩), .int .u8 want] w fun e w' => e = .returned (.bool (pk s p == want)) /\ Cur w' b s (adv (pk s p == want) p) /\ adv (pk s p == want) p <= s.size /\ w.grownBy w' (some b) := by
  have HPK := hide (peek_any b s p w h hp)
  have HPOS := hide (pk_pos s p)
  have hc256 := pk_lt s p
  generalize pk s p = c at *
  by_cases hc : c = want
  · have d : ((c : Int) != (want : Int)) = false := by simp; omega
    have hb : (c == want) = true := by simpa using hc
    have hlt := uh HPOS (by omega)
    rw [hb]
    go_enter Tryz.func185, Tryz.ntmps185
    clear hc hb
    go_wp2_with fail
    refine (uh HPK).mono ?_
    rintro e w1 ⟨rfl, hg1⟩
    have hC1 := h.gr hg1 (by simp)
    obtain ⟨h0, h1, h2, h3, hb1⟩ := hC1.cells
    have HC1 := hide hC1
    have HG1 := hide hg1
    clear hC1 hg1 h
    go_wp2
    go_ret
    have hcast : (p : Int) + 1 = ((p + 1 : Nat) : Int) := by omega
    rw [hcast]
    exact ⟨rfl, (uh HC1).set (p + 1), by show p + 1 <= s.size; exact hlt, gr_trans (gr_none (uh HG1) _) (gr_set _ _ _ _)⟩
  · have d : ((c : Int) != (want : Int)) = true := by simp; omega
    have hb : (c == want) = false := by simpa using hc
    rw [hb]
    go_enter Tryz.func185, Tryz.ntmps185
    clear hc hb
    go_wp2_with fail
    refine (uh HPK).mono ?_
    rintro e w1 ⟨rfl, hg1⟩
    have HC1 := hide (h.gr hg1 (by simp))
    have HG1 := hide hg1
    clear hg1 h
    go_wp2
    go_ret
    exact ⟨rfl, uh HC1, hp, gr_none (uh HG1) _⟩
def inB (lo hi c : Nat) : Bool := decide (lo <= c) && decide (c <= hi)
def offB (lo hi c : Nat) : Nat := if inB lo hi c then c - lo else 0
set_option maxHeartbeats 400000 in
theorem takeFrom_any (b : Nat) (s : ByteArray) (p lo hi : Nat) (w : World) (h : Cur w b s p) (hp : p <= s.size) (hs : s.size <= 256) (hl : 0 < lo) (hh : hi < 256) :
    Calls Tryz.prog 204 #[.pointer (some ⟨b, 0, none⟩), .int .u8 lo, .int .u8 hi] w fun e w' =>
      e = .returned (.tuple #[.int .i64 (offB lo hi (pk s p) : Nat), .bool (inB lo hi (pk s p))]) /\ Cur w' b s (adv (inB lo hi (pk s p)) p) /\ adv (inB lo hi (pk s p)) p <= s.size /\ w.grownBy w' (some b) := by
  have _ := hh
  have HPK := hide (peek_any b s p w h hp)
  have HPOS := hide (pk_pos s p)
  have hc256 := pk_lt s p
  generalize pk s p = c at *
  by_cases c1 : c < lo
  · have hb : inB lo hi c = false := by unfold inB; simp; omega
    have ho : offB lo hi c = 0 := by unfold offB; rw [hb]; rfl
    rw [ho, hb]
    have c1' : (c : Int) < lo := by omega
    go_enter Tryz.func204, Tryz.ntmps204
    clear hb ho
    go_wp2_with fail
    refine (uh HPK).mono ?_
    rintro e w1 ⟨rfl, hg1⟩
    have HC1 := hide (h.gr hg1 (by simp))
    have HG1 := hide hg1
    clear hg1 h
    go_wp2
    go_ret2
    exact ⟨rfl, uh HC1, hp, gr_none (uh HG1) _⟩
  by_cases c2 : hi < c
  · have hb : inB lo hi c = false := by unfold inB; simp; omega
    have ho : offB lo hi c = 0 := by unfold offB; rw [hb]; rfl
    rw [ho, hb]
    have c1' : ¬ (c : Int) < lo := by omega
    have c2' : (hi : Int) < c := by omega
    go_enter Tryz.func204, Tryz.ntmps204
    clear hb ho
    go_wp2_with fail
    refine (uh HPK).mono ?_
    rintro e w1 ⟨rfl, hg1⟩
    have HC1 := hide (h.gr hg1 (by simp))
    have HG1 := hide hg1
    clear hg1 h
    go_wp2
    go_ret2
    exact ⟨rfl, uh HC1, hp, gr_none (uh HG1) _⟩
  · have hb : inB lo hi c = true := by unfold inB; simp; omega
    have ho : offB lo hi c = c - lo := by unfold offB; rw [hb]; rfl
    have hlt := uh HPOS (by omega)
    rw [ho, hb]
    have c1' : ¬ (c : Int) < lo := by omega
    have c2' : ¬ (hi : Int) < c := by omega
    go_enter Tryz.func204, Tryz.ntmps204
    clear hb ho
    go_wp2_with fail
    refine (uh HPK).mono ?_
    rintro e w1 ⟨rfl, hg1⟩
    have hC1 := h.gr hg1 (by simp)
    obtain ⟨h0, h1, h2, h3, hb1⟩ := hC1.cells
    have HC1 := hide hC1
    have HG1 := hide hg1
    clear hC1 hg1 h
    go_wp2
    go_ret2
    have hcast : (p : Int) + 1 = ((p + 1 : Nat) : Int) := by omega
    rw [hcast]
    exact ⟨ret_ib (by show (c : Int) - lo = ((c - lo : Nat) : Int); omega), (uh HC1).set (p + 1), by show p + 1 <= s.size; exact hlt, gr_trans (gr_none (uh HG1) _) (gr_set _ _ _ _)⟩
set_option maxHeartbeats 400000 in
theorem takeLetter_any (b : Nat) (s : ByteArray) (p : Nat) (w : World) (h : Cur w b s p) (hs : s.size <= 256) (hp : p <= s.size) :
    Calls Tryz.prog 216 #[.pointer (some ⟨b, 0, none⟩)] w fun e w' =>
      e = .returned (.tuple #[.int .i64 (offB 97 112 (pk s p) : Nat), .bool (inB 97 112 (pk s p))]) /\ Cur w' b s (adv (inB 97 112 (pk s p)) p) /\ adv (inB 97 112 (pk s p)) p <= s.size /\ w.grownBy w' (some b) := by
  have H := hide (takeFrom_any b s p 97 112 w h hp hs (by omega) (by omega))
  generalize pk s p = c at *
  generalize offB 97 112 c = n at *
  generalize inB 97 112 c = t at *
  go_enter Tryz.func216, Tryz.ntmps216
  go_wp2_with fail
  refine (uh H).mono ?_
  rintro e w1 ⟨rfl, a1, a2, a3⟩
  go_wp2
  go_ret2
  exact ⟨rfl, a1, a2, a3⟩
set_option maxHeartbeats 400000 in
theorem takeCapital_any (b : Nat) (s : ByteArray) (p : Nat) (w : World) (h : Cur w b s p) (hs : s.size <= 256) (hp : p <= s.size) :
    Calls Tryz.prog 219 #[.pointer (some ⟨b, 0, none⟩)] w fun e w' =>
      e = .returned (.tuple #[.int .i64 (offB 65 76 (pk s p) : Nat), .bool (inB 65 76 (pk s p))]) /\ Cur w' b s (adv (inB 65 76 (pk s p)) p) /\ adv (inB 65 76 (pk s p)) p <= s.size /\ w.grownBy w' (some b) := by
  have H := hide (takeFrom_any b s p 65 76 w h hp hs (by omega) (by omega))
  generalize pk s p = c at *
  generalize offB 65 76 c = n at *
  generalize inB 65 76 c = t at *
  go_enter Tryz.func219, Tryz.ntmps219
  go_wp2_with fail
  refine (uh H).mono ?_
  rintro e w1 ⟨rfl, a1, a2, a3⟩
  go_wp2
  go_ret2
  exact ⟨rfl, a1, a2, a3⟩
def sgn (c : Nat) : Nat := if c = 43 then 43 else if c = 45 then 45 else 0
set_option maxHeartbeats 400000 in
theorem takeSign_any (b : Nat) (s : ByteArray) (p : Nat) (w : World) (h : Cur w b s p) (hs : s.size <= 256) (hp : p <= s.size) :
    Calls Tryz.prog 222 #[.pointer (some ⟨b, 0, none⟩)] w fun e w' =>
      e = .returned (.int .u8 (sgn (pk s p))) /\ Cur w' b s (adv (sgn (pk s p) != 0) p) /\ adv (sgn (pk s p) != 0) p <= s.size /\ w.grownBy w' (some b) := by
  have H1 := hide (take_any b s p 43 w h hs hp (by omega))
  have H2 := hide (fun w' (h : Cur w' b s p) => take_any b s p 45 w' h hs hp (by omega))
  generalize pk s p = c at *
  by_cases c1 : c = 43
  · subst c1
    go_enter Tryz.func222, Tryz.ntmps222
    go_wp2_with fail
    refine (uh H1).mono ?_
    rintro e w1 ⟨rfl, a1, a2, a3⟩
    have A := hide (And.intro a1 (And.intro a2 a3))
    clear a1 a2 a3
    go_wp2
    go_ret
    exact ⟨rfl, (uh A).1, (uh A).2.1, (uh A).2.2⟩
  have d1 : (c == 43) = false := by simpa using c1
  rw [d1] at H1
  by_cases c2 : c = 45
  · subst c2
    go_enter Tryz.func222, Tryz.ntmps222
    clear c1 d1
    go_wp2_with fail
    refine (uh H1).mono ?_
    rintro e w1 ⟨rfl, a1, a2, a3⟩
    have A := hide (And.intro a1 (And.intro a2 a3))
    clear a1 a2 a3
    go_wp2_with fail
    refine (uh H2 _ (uh A).1).mono ?_
    rintro e w2 ⟨rfl, b1, b2, b3⟩
    have B := hide (And.intro b1 (And.intro b2 b3))
    clear b1 b2 b3
    go_wp2
    go_ret
    exact ⟨rfl, (uh B).1, (uh B).2.1, gr_trans (uh A).2.2 (uh B).2.2⟩
  · have d2 : (c == 45) = false := by simpa using c2
    have hz : sgn c = 0 := by unfold sgn; rw [if_neg c1, if_neg c2]
    rw [d2] at H2
    rw [hz]
    go_enter Tryz.func222, Tryz.ntmps222
    clear c1 d1 c2 d2 hz
    go_wp2_with fail
    refine (uh H1).mono ?_
    rintro e w1 ⟨rfl, a1, a2, a3⟩
    have A := hide (And.intro a1 (And.intro a2 a3))
    clear a1 a2 a3
    go_wp2_with fail
    refine (uh H2 _ (uh A).1).mono ?_
    rintro e w2 ⟨rfl, b1, b2, b3⟩
    have B := hide (And.intro b1 (And.intro b2 b3))
    clear b1 b2 b3
    go_wp2
    go_ret
    exact ⟨rfl, (uh B).1, (uh B).2.1, gr_trans (uh A).2.2 (uh B).2.2⟩
end Go.Proofs.YtkbpocecbcaiiaaGreatDoor
namespace Go.Proofs.YtkbpocecbcaiiaaGreatDoor
def pathL (s : ByteArray) : Nat -> Nat -> List (Nat × Nat) × Nat
  | 0, p => ([], p)
  | f + 1, p => if inB 97 112 (pk s p) then
      (((pk s p - 97, sgn (pk s (p + 1))) :: (pathL s f (adv (sgn (pk s (p + 1)) != 0) (p + 1))).1), (pathL s f (adv (sgn (pk s (p + 1)) != 0) (p + 1))).2)
    else ([], p)
def flankL (s : ByteArray) : Nat -> Nat -> List (Nat × Nat) × Nat × Bool
  | 0, p => ([], p, true)
  | f + 1, p => if inB 97 112 (pk s p) then
      if sgn (pk s (p + 1)) = 0 then ([], p + 1, false)
      else (((pk s p - 97, sgn (pk s (p + 1))) :: (flankL s f (p + 2)).1), (flankL s f (p + 2)).2)
    else ([], p, true)
def capsL (s : ByteArray) : Nat -> Nat -> List Nat × Nat
  | 0, p => ([], p)
  | f + 1, p => if inB 65 76 (pk s p) then (((pk s p - 65) :: (capsL s f (p + 1)).1), (capsL s f (p + 1)).2) else ([], p)
end Go.Proofs.YtkbpocecbcaiiaaGreatDoor
namespace Go.Proofs.YtkbpocecbcaiiaaGreatDoor
open Go.RowKit
theorem Tryz.infoItem : (Tryz.prog.info? 196).map (fun i => (i.zero, i.size, i.bytes)) = some (some (.agg #[.int .i64 0, .int .u8 0]), 2, 16) := by kernel_rfl
def itemV (x : Nat × Nat) : List Value := [.int .i64 x.1, .int .u8 x.2]
def itemsV (l : List (Nat × Nat)) : List Value := (l.map itemV).flatten
theorem itemsV_snoc (l : List (Nat × Nat)) (x : Nat × Nat) : itemsV (l ++ [x]) = itemsV l ++ [.int .i64 x.1, .int .u8 x.2] := by simp [itemsV, itemV]
def CItem (_ : World) (x : Nat × Nat) (cs : List Value) : Prop := cs = itemV x
def Items (w : World) (v : Value) (l : List (Nat × Nat)) : Prop := SlAt 196 2 CItem w v l
theorem Items.keep {w w' : World} {v : Value} {l : List (Nat × Nat)} (h : Items w v l) (k : Keeps 196 w w') : Items w' v l := SlAt.keep h k (fun _ _ h => h)
theorem Items.ofOwn {w : World} {base : Nat} {v : Value} {l : List (Nat × Nat)} {n : Nat} (h : w.ownsRow base 196 2 v n (itemsV l)) (hn : n = l.length) : Items w v l := by
  refine SlAt.ofOwnN (css := l.map itemV) h ?_ ?_ hn
  · clear h hn
    induction l with
    | nil => trivial
    | cons a l ih => exact ⟨rfl, ih⟩
  · intro c hc
    obtain ⟨a, -, rfl⟩ := List.mem_map.1 hc
    rfl
theorem gr_own {b : Nat} {w w1 w2 : World} {o : Obj} {v : Value} {e : TypeId} {size n : Nat} {xs : List Value} {B : Nat} (h : w.grownBy w1 (some b)) (hB : w.heap.size <= B)
    (hown : w1.ownsRow B e size v n xs) (hg : (w1.alloc o).grownBy w2 v.ownBlock) : w.grownBy w2 (some b) := by
  refine ⟨hg.os.trans h.os, hg.tape.trans h.tape, hg.output.trans h.output, Nat.le_trans h.size (Nat.le_trans (by simp) hg.size), fun k hk hn => ?_⟩
  have hk1 : k < w1.heap.size := Nat.lt_of_lt_of_le hk h.size
  have h1 : (w1.alloc o).heap[k]? = w1.heap[k]? := Below.heap_alloc _ _ _ hk1
  have h2 : w2.heap[k]? = (w1.alloc o).heap[k]? := hg.block k (by simp; omega) (fun e => by have := (hown.lt k e.symm).1; omega)
  rw [h2, h1]
  exact h.block k hk hn
theorem Cur.own {b : Nat} {w1 w2 : World} {s : ByteArray} {p : Nat} {o : Obj} {v : Value} {e : TypeId} {size n : Nat} {xs : List Value} {B : Nat} (h : Cur w1 b s p)
    (hown : w1.ownsRow B e size v n xs) (hg : (w1.alloc o).grownBy w2 v.ownBlock) (hne : e ≠ 211) : Cur w2 b s p :=
  (append_keeps hown hg hne _ _ _ h).trans h
theorem own_gr {b : Nat} {w w' : World} {B : Nat} {e : TypeId} {size n : Nat} {v : Value} {xs : List Value} (h : w.ownsRow B e size v n xs) (hg : w.grownBy w' (some b)) (hb : b < B) : w'.ownsRow B e size v n xs := by
  refine h.kept hg ?_
  rcases h.2 with ⟨rfl, -⟩ | ⟨g, cap, cur, rfl, hg', -⟩
  · exact .inl rfl
  · right; simp only [Value.ownBlock, ne_eq, Option.some.injEq]; omega
set_option maxHeartbeats 1000000 in
theorem path_lo (b : Nat) (s : ByteArray) (p : Nat) (w : World) (h : Cur w b s p) (hs : s.size <= 256) (hp : p <= s.size) :
    Calls Tryz.prog 217 #[.pointer (some ⟨b, 0, none⟩)] w fun e w' => ∃ v, e = .returned (.tuple #[v, .bool (decide (0 < (pathL s 300 p).1.length))]) ∧
      Items w' v (pathL s 300 p).1 /\ Cur w' b s (pathL s 300 p).2 /\ (pathL s 300 p).2 <= s.size /\ w.grownBy w' (some b) /\ Lo w.heap.size v := by
  obtain ⟨i0, hi0⟩ := info_parts Tryz.infoItem
  have HI := hide hi0
  clear hi0
  have hbw := h.cells.2.2.2.2
  obtain ⟨Z, hZ⟩ : ∃ Z, Z = pathL s 300 p := ⟨_, rfl⟩
  rw [<- hZ]
  have H1 := hide (takeLetter_any b s p w h hs hp)
  go_enter Tryz.func217, Tryz.ntmps217
  go_wp2_with fail
  refine (uh H1).mono ?_
  rintro e w1 ⟨rfl, a1, a2, a3⟩
  have A := hide (And.intro a1 (And.intro a2 (And.intro a3 hZ)))
  clear a1 a2 a3 hZ
  go_wp2
  go_loopg [4, 5, 6] 300 (fun f l n t wr => ∃ q : Nat, ∃ acc, n = .int .i64 (offB 97 112 (pk s q) : Nat) /\ t = .bool (inB 97 112 (pk s q)) /\ acc.length <= q /\ q <= s.size /\ s.size < q + f ∧
      wr.ownsRow w.heap.size 196 2 l acc.length (itemsV acc) /\ Z = (acc ++ (pathL s f q).1, (pathL s f q).2) /\ Cur wr b s (adv (inB 97 112 (pk s q)) q) /\ adv (inB 97 112 (pk s q)) q <= s.size /\ w.grownBy wr (some b))
  case atStart => exact ⟨p, [], rfl, rfl, Nat.zero_le _, hp, by omega, World.ownsRow_nil _ _ _ _, (uh A).2.2.2, (uh A).1, (uh A).2.1, (uh A).2.2.1⟩
  case round =>
    clear A
    obtain ⟨q, acc, rfl, rfl, hac, hq, hf, hown, hZ, hC, hle, hg⟩ := hrel
    obtain ⟨f, hfe⟩ : ∃ f, gk = f + 1 := ⟨gk - 1, by omega⟩
    subst hfe
    cases hin : inB 97 112 (pk s q) with
    | false =>
      rw [hin] at hC hle
      have hZ2 : Z = (acc, q) := by rw [hZ]; simp [pathL, hin]
      have F := hide (And.intro (Items.ofOwn hown rfl) (And.intro hC (And.intro hle (And.intro hg hZ2))))
      have FLO := hide (Lo.of hown)
      obtain ⟨al, cl, hv⟩ := slice_of_own hown
      subst hv
      clear hown hZ hC hle hg hZ2
      go_wp2
      go_ret2
      obtain ⟨F1, F2, F3, F4, F5⟩ := uh F
      refine ⟨.slice al acc.length cl, ?_, by rw [F5]; exact F1, by rw [F5]; exact F2, by rw [F5]; exact F3, F4, uh FLO⟩
      rw [F5]; rfl
    | true =>
      rw [hin] at hC hle
      have hoff : offB 97 112 (pk s q) = pk s q - 97 := by unfold offB; rw [hin]; rfl
      rw [hoff]
      have hq1 : q + 1 <= s.size := hle
      have hZ2 : Z = ((acc ++ [(pk s q - 97, sgn (pk s (q + 1)))]) ++ (pathL s f (adv (sgn (pk s (q + 1)) != 0) (q + 1))).1, (pathL s f (adv (sgn (pk s (q + 1)) != 0) (q + 1))).2) := by
        rw [hZ]; simp [pathL, hin]
      have HS := hide (takeSign_any b s (q + 1) wr hC hs hq1)
      have hc256 := pk_lt s q
      have hadv : q + 1 <= adv (sgn (pk s (q + 1)) != 0) (q + 1) := by unfold adv; split <;> omega
      generalize sgn (pk s (q + 1)) = sg at *
      generalize adv (sg != 0) (q + 1) = q2 at *
      generalize pk s q = c at *
      have HZ2 := hide hZ2
      have hsz : w.heap.size <= wr.heap.size := hg.size
      clear hZ2 hZ hin hoff hC
      go_wp2_with fail
      refine (uh HS).mono ?_
      rintro e w2 ⟨rfl, a1, a2, a3⟩
      have hown2 := own_gr hown a3 hbw
      have hg2 := gr_trans hg a3
      have hsz2 : w.heap.size <= w2.heap.size := hg2.size
      have A := hide (And.intro a1 (And.intro a2 hg2))
      clear a1 a2 a3 hown hg hg2
      have hL := hide (fun w' (h : Cur w' b s q2) => takeLetter_any b s q2 w' h hs)
      go_wp2_with (first
        | (at_builtin; refine wpList_append_own _ rfl _ _ 122 rfl w.heap.size 196 i0 (.agg #[.int .i64 0, .int .u8 0]) 2 16 Tryz.underlying122 (uh HI).1 (uh HI).2.1 (uh HI).2.2.1 (uh HI).2.2.2 rfl (by decide) _ _ _ rfl (hown2.alloc _) ⟨w2.heap.size, 0, none⟩ 1 1 [.int .i64 ((c - 97 : Nat) : Int), .int .u8 sg] rfl rfl (cells_new_at _ [.int .i64 ((c - 97 : Nat) : Int), .int .u8 sg] _ _ rfl) (by simp [Value.oneCell']) (by unfold maxLen; omega) (by omega) (by simp; omega) ?_; intro v3 w3 hown3 hgrow3 _; have HC3 := hide ((uh A).1.own hown2 hgrow3 (by decide)); have HG3 := hide (gr_own (uh A).2.2 (Nat.le_refl _) hown2 hgrow3))
        | (go_at_call 216; refine (uh hL _ (uh HC3) (uh A).2.1).mono ?_; rintro e w4 ⟨rfl, a1, a2, a3⟩))
      have hown4 := own_gr hown3 a3 hbw
      rw [<- itemsV_snoc acc (c - 97, sg)] at hown4
      go_roundg f
      case measure => omega
      case rel => exact ⟨q2, acc ++ [(c - 97, sg)], rfl, rfl, by simp; omega, (uh A).2.1, by omega, by simpa using hown4, uh HZ2, a1, a2, gr_trans (uh HG3) a3⟩
set_option maxHeartbeats 1000000 in
theorem flank_lo (b : Nat) (s : ByteArray) (p : Nat) (w : World) (h : Cur w b s p) (hs : s.size <= 256) (hp : p <= s.size) :
    Calls Tryz.prog 218 #[.pointer (some ⟨b, 0, none⟩)] w fun e w' => ∃ a n c, e = .returned (.tuple #[.slice a n c, .bool ((flankL s 300 p).2.2 && decide (0 < (flankL s 300 p).1.length))]) ∧
      ((flankL s 300 p).2.2 = true -> Items w' (.slice a n c) (flankL s 300 p).1) /\ Cur w' b s (flankL s 300 p).2.1 /\ (flankL s 300 p).2.1 <= s.size /\ w.grownBy w' (some b) /\ Lo w.heap.size (.slice a n c) := by
  obtain ⟨i0, hi0⟩ := info_parts Tryz.infoItem
  have HI := hide hi0
  clear hi0
  have hbw := h.cells.2.2.2.2
  obtain ⟨Z, hZ⟩ : ∃ Z, Z = flankL s 300 p := ⟨_, rfl⟩
  rw [<- hZ]
  have H1 := hide (takeLetter_any b s p w h hs hp)
  go_enter Tryz.func218, Tryz.ntmps218
  go_wp2_with fail
  refine (uh H1).mono ?_
  rintro e w1 ⟨rfl, a1, a2, a3⟩
  have A := hide (And.intro a1 (And.intro a2 (And.intro a3 hZ)))
  clear a1 a2 a3 hZ
  go_wp2
  go_loopg [4, 5, 6] 300 (fun f l n t wr => ∃ q : Nat, ∃ acc, n = .int .i64 (offB 97 112 (pk s q) : Nat) /\ t = .bool (inB 97 112 (pk s q)) /\ acc.length <= q /\ q <= s.size /\ s.size < q + f ∧
      wr.ownsRow w.heap.size 196 2 l acc.length (itemsV acc) /\ Z = (acc ++ (flankL s f q).1, (flankL s f q).2) /\ Cur wr b s (adv (inB 97 112 (pk s q)) q) /\ adv (inB 97 112 (pk s q)) q <= s.size /\ w.grownBy wr (some b))
  case atStart => exact ⟨p, [], rfl, rfl, Nat.zero_le _, hp, by omega, World.ownsRow_nil _ _ _ _, (uh A).2.2.2, (uh A).1, (uh A).2.1, (uh A).2.2.1⟩
  case round =>
    clear A
    obtain ⟨q, acc, rfl, rfl, hac, hq, hf, hown, hZ, hC, hle, hg⟩ := hrel
    obtain ⟨f, hfe⟩ : ∃ f, gk = f + 1 := ⟨gk - 1, by omega⟩
    subst hfe
    cases hin : inB 97 112 (pk s q) with
    | false =>
      rw [hin] at hC hle
      have hZ2 : Z = (acc, q, true) := by rw [hZ]; simp [flankL, hin]
      have F := hide (And.intro (Items.ofOwn hown rfl) (And.intro hC (And.intro hle (And.intro hg hZ2))))
      have FLO := hide (Lo.of hown)
      obtain ⟨al, cl, hv⟩ := slice_of_own hown
      subst hv
      clear hown hZ hC hle hg hZ2
      go_wp2
      go_ret2
      obtain ⟨F1, F2, F3, F4, F5⟩ := uh F
      refine ⟨al, acc.length, cl, ?_, by rw [F5]; exact fun _ => F1, by rw [F5]; exact F2, by rw [F5]; exact F3, F4, uh FLO⟩
      rw [F5]; simp
    | true =>
      rw [hin] at hC hle
      have hoff : offB 97 112 (pk s q) = pk s q - 97 := by unfold offB; rw [hin]; rfl
      rw [hoff]
      have hq1 : q + 1 <= s.size := hle
      have HS := hide (takeSign_any b s (q + 1) wr hC hs hq1)
      have hc256 := pk_lt s q
      have hsz : w.heap.size <= wr.heap.size := hg.size
      by_cases h0 : sgn (pk s (q + 1)) = 0
      · have HZ2 := hide (show Z = (acc, q + 1, false) by rw [hZ]; simp [flankL, hin, h0])
        rw [h0] at HS
        generalize pk s q = c at *
        clear hZ hin hoff h0 hown
        go_wp2_with fail
        refine (uh HS).mono ?_
        rintro e w2 ⟨rfl, a1, a2, a3⟩
        have A := hide (And.intro a1 (gr_trans hg a3))
        clear a1 a2 a3 hg hC
        go_wp2
        go_ret2
        refine ⟨none, 0, 0, by rw [uh HZ2]; rfl, fun h => absurd h (by rw [uh HZ2]; simp), by rw [uh HZ2]; exact (uh A).1, by rw [uh HZ2]; exact hq1, (uh A).2, Lo.nil _ _ _⟩
      · have hadv : adv (sgn (pk s (q + 1)) != 0) (q + 1) = q + 2 := by unfold adv; simp [h0]
        have hZ2 : Z = ((acc ++ [(pk s q - 97, sgn (pk s (q + 1)))]) ++ (flankL s f (q + 2)).1, (flankL s f (q + 2)).2) := by
          rw [hZ]; simp [flankL, hin, h0]
        rw [hadv] at HS
        generalize sgn (pk s (q + 1)) = sg at *
        generalize pk s q = c at *
        have HZ2 := hide hZ2
        have hsg : ((sg : Int) == 0) = false := by simp; omega
        clear hZ2 hZ hin hoff hC h0
        go_wp2_with fail
        refine (uh HS).mono ?_
        rintro e w2 ⟨rfl, a1, a2, a3⟩
        have hown2 := own_gr hown a3 hbw
        have hg2 := gr_trans hg a3
        have hsz2 : w.heap.size <= w2.heap.size := hg2.size
        have A := hide (And.intro a1 (And.intro a2 hg2))
        clear a1 a2 a3 hown hg hg2
        have hL := hide (fun w' (h : Cur w' b s (q + 2)) => takeLetter_any b s (q + 2) w' h hs)
        go_wp2_with (first
          | (at_builtin; refine wpList_append_own _ rfl _ _ 122 rfl w.heap.size 196 i0 (.agg #[.int .i64 0, .int .u8 0]) 2 16 Tryz.underlying122 (uh HI).1 (uh HI).2.1 (uh HI).2.2.1 (uh HI).2.2.2 rfl (by decide) _ _ _ rfl (hown2.alloc _) ⟨w2.heap.size, 0, none⟩ 1 1 [.int .i64 ((c - 97 : Nat) : Int), .int .u8 sg] rfl rfl (cells_new_at _ [.int .i64 ((c - 97 : Nat) : Int), .int .u8 sg] _ _ rfl) (by simp [Value.oneCell']) (by unfold maxLen; omega) (by omega) (by simp; omega) ?_; intro v3 w3 hown3 hgrow3 _; have HC3 := hide ((uh A).1.own hown2 hgrow3 (by decide)); have HG3 := hide (gr_own (uh A).2.2 (Nat.le_refl _) hown2 hgrow3))
          | (go_at_call 216; refine (uh hL _ (uh HC3) (uh A).2.1).mono ?_; rintro e w4 ⟨rfl, a1, a2, a3⟩))
        have hown4 := own_gr hown3 a3 hbw
        rw [<- itemsV_snoc acc (c - 97, sg)] at hown4
        go_roundg f
        case measure => omega
        case rel => exact ⟨q + 2, acc ++ [(c - 97, sg)], rfl, rfl, by simp; omega, (uh A).2.1, by omega, by simpa using hown4, uh HZ2, a1, a2, gr_trans (uh HG3) a3⟩
end Go.Proofs.YtkbpocecbcaiiaaGreatDoor
namespace Go.Proofs.YtkbpocecbcaiiaaGreatDoor
open Go.RowKit
def CRt (w : World) (r : Rt) (cs : List Value) : Prop := ∃ vp vf, cs = [.int .i64 r.foot, vp, vf] /\ Items w vp r.path /\ Items w vf r.flank
theorem CRt.keep {w w' : World} {r : Rt} {cs : List Value} (h : CRt w r cs) (k : Keeps 196 w w') : CRt w' r cs := by
  obtain ⟨vp, vf, e, a, b⟩ := h
  exact ⟨vp, vf, e, a.keep k, b.keep k⟩
theorem tri0 {w : World} {g : Nat} {c0 c1 c2 : Value} {e : TypeId} (h : w.heap[g]? = some (.cells #[c0, c1, c2] e (0, 0))) :
    (w.cell? ⟨g, 0, none⟩ = some c0 /\ w.cell? ⟨g, 1, none⟩ = some c1 /\ w.cell? ⟨g, 2, none⟩ = some c2) /\ (w.frozen? ⟨g, 0, none⟩ = false /\ w.frozen? ⟨g, 1, none⟩ = false /\ w.frozen? ⟨g, 2, none⟩ = false) /\ g < w.heap.size :=
  ⟨⟨blk_cell0 h 0, blk_cell0 h 1, blk_cell0 h 2⟩, ⟨blk_free0 h 0, blk_free0 h 1, blk_free0 h 2⟩, blk_lt h⟩
theorem gr_new {w w1 : World} {r : Option Nat} (h : w.grownBy w1 r) (g j : Nat) (u : Value) (hg : w.heap.size <= g) : w.grownBy (w1.setCell ⟨g, j, none⟩ u) r :=
  ⟨h.os, h.tape, h.output, by simpa [World.setCell] using h.size, fun k hk hn => by rw [Below.heap_setCell _ _ _ _ (by show k ≠ g; omega)]; exact h.block k hk hn⟩
theorem gr_alloc {w w1 : World} {r : Option Nat} (h : w.grownBy w1 r) (o : Obj) : w.grownBy (w1.alloc o) r :=
  ⟨h.os, h.tape, h.output, Nat.le_trans h.size (by simp), fun k hk hn => by rw [Below.heap_alloc _ _ _ (Nat.lt_of_lt_of_le hk h.size)]; exact h.block k hk hn⟩
theorem Cur.alloc {w : World} {b : Nat} {s : ByteArray} {p : Nat} (h : Cur w b s p) (o : Obj) : Cur (w.alloc o) b s p := by
  have := h.cells.2.2.2.2
  unfold Cur at h ⊢
  rw [Below.heap_alloc _ _ _ this]; exact h
theorem Cur.setCell {w : World} {b : Nat} {s : ByteArray} {p : Nat} (h : Cur w b s p) (g j : Nat) (u : Value) (hg : b ≠ g) : Cur (w.setCell ⟨g, j, none⟩ u) b s p := by
  unfold Cur at h ⊢
  rw [Below.heap_setCell _ _ _ _ hg]; exact h
theorem blk_gr {w w' : World} {b g : Nat} {o : Obj} (h : w.heap[g]? = some o) (hg : w.grownBy w' (some b)) (hne : g ≠ b) : w'.heap[g]? = some o := by
  rw [hg.block g (blk_lt h) (by simpa using hne)]; exact h
theorem keeps_gr {w w' : World} {b : Nat} {e e' : TypeId} (hT : Typed w b e') (hg : w.grownBy w' (some b)) (hne : e' ≠ e) : Keeps e w w' := by
  intro g cur fr h
  refine hg.block g (blk_lt h) ?_
  intro heq
  simp only [Option.some.injEq] at heq
  subst heq
  obtain ⟨cur', fr', h'⟩ := hT
  rw [h] at h'
  simp at h'
  exact hne h'.2.1.symm
theorem Cur.typed {w : World} {b : Nat} {s : ByteArray} {p : Nat} (h : Cur w b s p) : Typed w b 211 := ⟨_, _, h⟩
theorem store3 {W : World} {b : Nat} {t : TypeId} (hT : Typed W b t) (u0 u1 u2 : Value) :
    (∀ e, t ≠ e -> Keeps e W (((W.setCell ⟨b, 0, none⟩ u0).setCell ⟨b, 1, none⟩ u1).setCell ⟨b, 2, none⟩ u2)) := by
  have h1 := hT.setCell ⟨b, 0, none⟩ u0
  have h2 := h1.setCell ⟨b, 1, none⟩ u1
  exact fun e he => ((Keeps.setCell ⟨b, 0, none⟩ u0 hT he).trans (Keeps.setCell ⟨b, 1, none⟩ u1 h1 he)).trans (Keeps.setCell ⟨b, 2, none⟩ u2 h2 he)
def routeL (s : ByteArray) (p : Nat) : Bool × Nat × Rt :=
  if inB 97 112 (pk s p) = false then (false, p, Rt0)
  else if (pk s (p + 1) == 62) = false then (false, p + 1, Rt0)
  else if (pathL s 300 (p + 2)).1.length = 0 then (false, (pathL s 300 (p + 2)).2, Rt0)
  else if (pk s (pathL s 300 (p + 2)).2 == 33) = false then (true, (pathL s 300 (p + 2)).2, ⟨pk s p - 97, (pathL s 300 (p + 2)).1, []⟩)
  else ((flankL s 300 ((pathL s 300 (p + 2)).2 + 1)).2.2 && decide (0 < (flankL s 300 ((pathL s 300 (p + 2)).2 + 1)).1.length), (flankL s 300 ((pathL s 300 (p + 2)).2 + 1)).2.1,
    ⟨pk s p - 97, (pathL s 300 (p + 2)).1, (flankL s 300 ((pathL s 300 (p + 2)).2 + 1)).1⟩)
set_option maxHeartbeats 1000000 in
theorem route_clo (b : Nat) (s : ByteArray) (p : Nat) (w : World) (h : Cur w b s p) (hs : s.size <= 256) (hp : p <= s.size) :
    Calls Tryz.prog 206 #[.pointer (some ⟨b, 0, none⟩)] w fun e w' => ∃ (t : Int) (a1 a2 : Option Addr) (n1 n2 c1 c2 : Nat), e = .returned (.tuple #[.agg #[.int .i64 t, .slice a1 n1 c1, .slice a2 n2 c2], .bool (routeL s p).1]) ∧
      ((routeL s p).1 = true -> CRt w' (routeL s p).2.2 [.int .i64 t, .slice a1 n1 c1, .slice a2 n2 c2]) /\ Cur w' b s (routeL s p).2.1 /\ (routeL s p).2.1 <= s.size /\ w.grownBy w' (some b) /\ LoC w.heap.size [.int .i64 t, .slice a1 n1 c1, .slice a2 n2 c2] := by
  have hbw := h.cells.2.2.2.2
  obtain ⟨Z, hZ⟩ : ∃ Z, Z = routeL s p := ⟨_, rfl⟩
  rw [<- hZ]
  unfold routeL at hZ
  have H1 := hide (fun w (h : Cur w b s p) => takeLetter_any b s p w h hs hp)
  have h2 := (h.alloc (.cells #[.int .i64 0, .slice none 0 0, .slice none 0 0] 124)).alloc (.cells #[.int .i64 0, .slice none 0 0, .slice none 0 0] 124)
  have g2 := gr_alloc (gr_alloc (gr_refl w (some b)) (.cells #[.int .i64 0, .slice none 0 0, .slice none 0 0] 124)) (.cells #[.int .i64 0, .slice none 0 0, .slice none 0 0] 124)
  have B1 := blk1 w (.cells #[.int .i64 0, .slice none 0 0, .slice none 0 0] 124) (.cells #[.int .i64 0, .slice none 0 0, .slice none 0 0] 124)
  have B2 := blk2 w (.cells #[.int .i64 0, .slice none 0 0, .slice none 0 0] 124) (.cells #[.int .i64 0, .slice none 0 0, .slice none 0 0] 124)
  have G := hide (And.intro h2 (And.intro g2 (And.intro B1 B2)))
  have hne1 : w.heap.size ≠ b := by omega
  have hne2 : w.heap.size + 1 ≠ b := by omega
  have HZ := hide hZ
  clear h2 g2 B1 B2 hZ
  go_enter Tryz.func206, Tryz.ntmps206
  go_wp2_with fail
  refine (uh H1 _ (uh G).1).mono ?_
  rintro e w1 ⟨rfl, a1, a2, a3⟩
  have D := hide (And.intro (blk_gr (uh G).2.2.1 a3 hne1) (And.intro (blk_gr (uh G).2.2.2 a3 hne2) (gr_trans (uh G).2.1 a3)))
  have A := hide (And.intro a1 a2)
  clear G a1 a2 a3
  cases hin : inB 97 112 (pk s p) with
  | false =>
    rw [hin, if_pos rfl] at HZ
    rw [hin] at A
    clear hin
    obtain ⟨⟨r0, r1, r2⟩, ⟨f0, f1, f2⟩, q1⟩ := tri0 (uh D).1
    obtain ⟨⟨l0, l1, l2⟩, ⟨k0, k1, k2⟩, q2⟩ := tri0 (uh D).2.1
    go_wp2
    refine bodyPost_ret (v := .tuple #[.agg #[.int .i64 0, .slice none 0 0, .slice none 0 0], .bool false]) (by simp [results, Tryz.results206, go_sem, r0, r1, r2]) rfl ?_
    refine ⟨_, _, _, _, _, _, _, by rw [uh HZ] <;> rfl, fun h => absurd h (by rw [uh HZ]; simp), ?_, ?_, gr_new (gr_new (gr_new (uh D).2.2 _ _ _ (Nat.le_refl _)) _ _ _ (Nat.le_refl _)) _ _ _ (Nat.le_refl _), lo3 (Lo.nil _ _ _) (Lo.nil _ _ _)⟩
    · rw [uh HZ]; exact ((((uh A).1).setCell _ _ _ (Ne.symm hne1)).setCell _ _ _ (Ne.symm hne1)).setCell _ _ _ (Ne.symm hne1)
    · rw [uh HZ]; exact (uh A).2
  | true =>
    rw [hin, if_neg (by simp)] at HZ
    rw [hin] at A
    have hoff : offB 97 112 (pk s p) = pk s p - 97 := by unfold offB; rw [hin]; rfl
    rw [hoff]
    clear hin hoff
    have hp1 : p + 1 <= s.size := (uh A).2
    have H2 := hide (take_any b s (p + 1) 62 w1 (uh A).1 hs hp1 (by omega))
    have hc256 := pk_lt s p
    generalize pk s p = c at *
    cases h62 : (pk s (p + 1) == 62) with
    | false =>
      rw [h62, if_pos rfl] at HZ
      rw [h62] at H2
      clear h62
      go_wp2_with fail
      refine (uh H2).mono ?_
      rintro e w2 ⟨rfl, a1, a2, a3⟩
      have D2 := hide (And.intro (blk_gr (uh D).1 a3 hne1) (And.intro (blk_gr (uh D).2.1 a3 hne2) (gr_trans (uh D).2.2 a3)))
      have A2 := hide (And.intro a1 a2)
      clear D a1 a2 a3
      obtain ⟨⟨r0, r1, r2⟩, ⟨f0, f1, f2⟩, q1⟩ := tri0 (uh D2).1
      obtain ⟨⟨l0, l1, l2⟩, ⟨k0, k1, k2⟩, q2⟩ := tri0 (uh D2).2.1
      go_wp2
      refine bodyPost_ret (v := .tuple #[.agg #[.int .i64 0, .slice none 0 0, .slice none 0 0], .bool false]) (by simp [results, Tryz.results206, go_sem, r0, r1, r2]) rfl ?_
      refine ⟨_, _, _, _, _, _, _, by rw [uh HZ] <;> rfl, fun h => absurd h (by rw [uh HZ]; simp), ?_, ?_, gr_new (gr_new (gr_new (uh D2).2.2 _ _ _ (Nat.le_refl _)) _ _ _ (Nat.le_refl _)) _ _ _ (Nat.le_refl _), lo3 (Lo.nil _ _ _) (Lo.nil _ _ _)⟩
      · rw [uh HZ]; exact ((((uh A2).1).setCell _ _ _ (Ne.symm hne1)).setCell _ _ _ (Ne.symm hne1)).setCell _ _ _ (Ne.symm hne1)
      · rw [uh HZ]; exact (uh A2).2
    | true =>
      rw [h62, if_neg (by simp)] at HZ
      rw [h62] at H2
      clear h62
      go_wp2_with fail
      refine (uh H2).mono ?_
      rintro e w2 ⟨rfl, a1, a2, a3⟩
      have hL2 := blk_setCell (j := 0) (.int .i64 ((c - 97 : Nat) : Int)) (blk_gr (uh D).2.1 a3 hne2)
      have hR2 : (w2.setCell ⟨w.heap.size + 1, 0, none⟩ (.int .i64 ((c - 97 : Nat) : Int))).heap[w.heap.size]? = _ := (Below.heap_setCell w2 ⟨w.heap.size + 1, 0, none⟩ (.int .i64 ((c - 97 : Nat) : Int)) w.heap.size (by simp)).trans (blk_gr (uh D).1 a3 hne1)
      have hG2 := gr_new (gr_trans (uh D).2.2 a3) (w.heap.size + 1) 0 (.int .i64 ((c - 97 : Nat) : Int)) (by omega)
      have hC2 := a1.setCell (w.heap.size + 1) 0 (.int .i64 ((c - 97 : Nat) : Int)) (Ne.symm hne2)
      have hp2 : p + 2 <= s.size := a2
      obtain ⟨⟨r0, r1, r2⟩, ⟨f0, f1, f2⟩, q1⟩ := tri0 (blk_gr (uh D).1 a3 hne1)
      obtain ⟨⟨l0, l1, l2⟩, ⟨k0, k1, k2⟩, q2⟩ := tri0 (blk_gr (uh D).2.1 a3 hne2)
      have H3 := hide (path_lo b s (p + 2) _ hC2 hs hp2)
      have D2 := hide (And.intro hR2 (And.intro hL2 hG2))
      clear D A H2 a1 a2 a3 hL2 hR2 hG2 hC2
      generalize pathL s 300 (p + 2) = PL at *
      go_wp2_with fail
      refine (uh H3).mono ?_
      rintro e w3 ⟨vp, rfl, a0, a1, a2, a3, alo⟩
      have HLP := hide (alo.mono (m := w.heap.size) (uh D2).2.2.size)
      clear alo
      have D3 := hide (And.intro (blk_gr (uh D2).1 a3 hne1) (And.intro (blk_gr (uh D2).2.1 a3 hne2) (And.intro (gr_trans (uh D2).2.2 a3) (And.intro a0 (And.intro a1 a2)))))
      obtain ⟨ap, cp, hvp, -, -, -⟩ := SlAt.open a0
      subst hvp
      clear D2 H3 r0 r1 r2 f0 f1 f2 q1 l0 l1 l2 k0 k1 k2 q2 a0 a1 a2 a3
      obtain ⟨⟨r0, r1, r2⟩, ⟨f0, f1, f2⟩, q1⟩ := tri0 (uh D3).1
      have hLL : w3.heap[w.heap.size + 1]? = some (.cells #[.int .i64 ((c - 97 : Nat) : Int), .slice none 0 0, .slice none 0 0] 124 (0, 0)) := (uh D3).2.1
      obtain ⟨⟨l0, l1, l2⟩, ⟨k0, k1, k2⟩, q2⟩ := tri0 hLL
      have HLL := hide hLL
      clear hLL
      by_cases hpe : PL.1.length = 0
      · rw [if_pos hpe] at HZ
        have d : decide (0 < PL.1.length) = false := decide_eq_false (by omega)
        rw [d]
        clear d
        go_wp2
        refine bodyPost_ret (v := .tuple #[.agg #[.int .i64 ((c - 97 : Nat) : Int), .slice none 0 0, .slice none 0 0], .bool false]) (by simp [results, Tryz.results206, go_sem, r0, r1, r2]) rfl ?_
        refine ⟨_, _, _, _, _, _, _, by rw [uh HZ] <;> rfl, fun h => absurd h (by rw [uh HZ]; simp), ?_, ?_, gr_new (gr_new (gr_new (uh D3).2.2.1 _ _ _ (Nat.le_refl _)) _ _ _ (Nat.le_refl _)) _ _ _ (Nat.le_refl _), lo3 (Lo.nil _ _ _) (Lo.nil _ _ _)⟩
        · rw [uh HZ]; exact ((((uh D3).2.2.2.2.1).setCell _ _ _ (Ne.symm hne1)).setCell _ _ _ (Ne.symm hne1)).setCell _ _ _ (Ne.symm hne1)
        · rw [uh HZ]; exact (uh D3).2.2.2.2.2
      · rw [if_neg hpe] at HZ
        have d : decide (0 < PL.1.length) = true := decide_eq_true (by omega)
        rw [d]
        clear d
        have hL4 := blk_setCell (j := 1) (.slice ap PL.1.length cp) (uh HLL)
        have hR4 : (w3.setCell ⟨w.heap.size + 1, 1, none⟩ (.slice ap PL.1.length cp)).heap[w.heap.size]? = _ := (Below.heap_setCell w3 ⟨w.heap.size + 1, 1, none⟩ (.slice ap PL.1.length cp) w.heap.size (by simp)).trans (uh D3).1
        have hG4 := gr_new (uh D3).2.2.1 (w.heap.size + 1) 1 (.slice ap PL.1.length cp) (by omega)
        have hC4 := (uh D3).2.2.2.2.1.setCell (w.heap.size + 1) 1 (.slice ap PL.1.length cp) (Ne.symm hne2)
        have hI4 := (uh D3).2.2.2.1.keep (Keeps.setCell ⟨w.heap.size + 1, 1, none⟩ (.slice ap PL.1.length cp) ⟨_, _, uh HLL⟩ (by decide))
        have hq2 := (uh D3).2.2.2.2.2
        have H5 := hide (take_any b s PL.2 33 _ hC4 hs hq2 (by omega))
        have D4 := hide (And.intro hR4 (And.intro hL4 (And.intro hG4 (And.intro hI4 hC4.typed))))
        have l0' := hide l0
        clear D3 hR4 hL4 hG4 hC4 hI4
        go_wp2_with fail
        refine (uh H5).mono ?_
        rintro e w5 ⟨rfl, a1, a2, a3⟩
        have hLL : w5.heap[w.heap.size + 1]? = some (.cells #[.int .i64 ((c - 97 : Nat) : Int), .slice ap PL.1.length cp, .slice none 0 0] 124 (0, 0)) := blk_gr (uh D4).2.1 a3 hne2
        have hI5 : Items w5 (.slice ap PL.1.length cp) PL.1 := (uh D4).2.2.2.1.keep (keeps_gr (uh D4).2.2.2.2 a3 (by decide))
        have hR5 := blk_gr (uh D4).1 a3 hne1
        have D5 := hide (And.intro hR5 (And.intro hLL (And.intro (gr_trans (uh D4).2.2.1 a3) (And.intro hI5 (And.intro a1 a2)))))
        clear D4 H5 r0 r1 r2 f0 f1 f2 q1 l0 l1 l2 k0 k1 k2 q2 a1 a2 a3 hLL hI5 hR5 HLL l0'
        obtain ⟨⟨r0, r1, r2⟩, ⟨f0, f1, f2⟩, q1⟩ := tri0 (uh D5).1
        obtain ⟨⟨l0, l1, l2⟩, ⟨k0, k1, k2⟩, q2⟩ := tri0 (uh D5).2.1
        cases h33 : (pk s PL.2 == 33) with
        | false =>
          rw [h33, if_pos rfl] at HZ
          rw [h33] at D5
          clear h33
          have kS := hide (store3 (⟨_, _, (uh D5).1⟩ : Typed w5 w.heap.size 124) (.int .i64 ((c - 97 : Nat) : Int)) (.slice ap PL.1.length cp) (.slice none 0 0) 196 (by decide))
          go_wp2
          refine bodyPost_ret (v := .tuple #[.agg #[.int .i64 ((c - 97 : Nat) : Int), .slice ap PL.1.length cp, .slice none 0 0], .bool true]) (by simp [results, Tryz.results206, go_sem, r0, r1, r2]) rfl ?_
          refine ⟨_, _, _, _, _, _, _, by rw [uh HZ] <;> rfl, fun _ => by rw [uh HZ]; exact ⟨_, _, rfl, (uh D5).2.2.2.1.keep (uh kS), SlAt.nil _ _ _ _⟩, ?_, ?_, gr_new (gr_new (gr_new (uh D5).2.2.1 _ _ _ (Nat.le_refl _)) _ _ _ (Nat.le_refl _)) _ _ _ (Nat.le_refl _), lo3 (uh HLP) (Lo.nil _ _ _)⟩
          · rw [uh HZ]; exact ((((uh D5).2.2.2.2.1).setCell _ _ _ (Ne.symm hne1)).setCell _ _ _ (Ne.symm hne1)).setCell _ _ _ (Ne.symm hne1)
          · rw [uh HZ]; exact (uh D5).2.2.2.2.2
        | true =>
          rw [h33, if_neg (by simp)] at HZ
          rw [h33] at D5
          clear h33
          have hq3 : PL.2 + 1 <= s.size := (uh D5).2.2.2.2.2
          have H6 := hide (flank_lo b s (PL.2 + 1) w5 (uh D5).2.2.2.2.1 hs hq3)
          generalize flankL s 300 (PL.2 + 1) = FL at *
          go_wp2_with fail
          refine (uh H6).mono ?_
          rintro e w6 ⟨af, nf, cf, rfl, a0, a1, a2, a3, alo⟩
          have HLF := hide (alo.mono (m := w.heap.size) (uh D5).2.2.1.size)
          clear alo
          have hI6 : Items w6 (.slice ap PL.1.length cp) PL.1 := (uh D5).2.2.2.1.keep (keeps_gr (uh D5).2.2.2.2.1.typed a3 (by decide))
          have D6 := hide (And.intro (blk_gr (uh D5).1 a3 hne1) (And.intro (blk_gr (uh D5).2.1 a3 hne2) (And.intro (gr_trans (uh D5).2.2.1 a3) (And.intro hI6 (And.intro a1 (And.intro a2 a0))))))
          clear D5 H6 r0 r1 r2 f0 f1 f2 q1 l0 l1 l2 k0 k1 k2 q2 a0 a1 a2 a3 hI6
          obtain ⟨⟨r0, r1, r2⟩, ⟨f0, f1, f2⟩, q1⟩ := tri0 (uh D6).1
          obtain ⟨⟨l0, l1, l2⟩, ⟨k0, k1, k2⟩, q2⟩ := tri0 (uh D6).2.1
          have hT7 := Typed.setCell (w := w6) (b := w.heap.size) (e := 124) ⟨_, _, (uh D6).1⟩ ⟨w.heap.size + 1, 2, none⟩ (.slice af nf cf)
          have kS := hide ((Keeps.setCell ⟨w.heap.size + 1, 2, none⟩ (.slice af nf cf) ⟨_, _, (uh D6).2.1⟩ (by decide : 124 ≠ 196)).trans (store3 hT7 (.int .i64 ((c - 97 : Nat) : Int)) (.slice ap PL.1.length cp) (.slice af nf cf) 196 (by decide)))
          have hgg := hide (gr_new (uh D6).2.2.1 (w.heap.size + 1) 2 (.slice af nf cf) (by omega))
          have hcc := hide ((uh D6).2.2.2.2.1.setCell (w.heap.size + 1) 2 (.slice af nf cf) (Ne.symm hne2))
          clear hT7
          generalize hok : (FL.2.2 && decide (0 < FL.1.length)) = ok at *
          have HOK := hide hok
          clear hok
          go_wp2
          refine bodyPost_ret (v := .tuple #[.agg #[.int .i64 ((c - 97 : Nat) : Int), .slice ap PL.1.length cp, .slice af nf cf], .bool ok]) (by simp [results, Tryz.results206, go_sem, r0, r1, r2]) rfl ?_
          refine ⟨_, _, _, _, _, _, _, by rw [uh HZ] <;> rfl, fun h => by rw [uh HZ] at h ⊢; exact ⟨_, _, rfl, (uh D6).2.2.2.1.keep (uh kS), ((uh D6).2.2.2.2.2.2 (by have h2 := (uh HOK).trans h; simp at h2; exact h2.1)).keep (uh kS)⟩, ?_, ?_, gr_new (gr_new (gr_new (uh hgg) _ _ _ (Nat.le_refl _)) _ _ _ (Nat.le_refl _)) _ _ _ (Nat.le_refl _), lo3 (uh HLP) (uh HLF)⟩
          · rw [uh HZ]; exact (((uh hcc).setCell _ _ _ (Ne.symm hne1)).setCell _ _ _ (Ne.symm hne1)).setCell _ _ _ (Ne.symm hne1)
          · rw [uh HZ]; exact (uh D6).2.2.2.2.2.1
end Go.Proofs.YtkbpocecbcaiiaaGreatDoor
namespace Go.Proofs.YtkbpocecbcaiiaaGreatDoor
open Go.RowKit
def CTn (w : World) (t : Tn) (cs : List Value) : Prop := ∃ vj, cs = [.int .i64 t.start, vj] /\ Ints w vj t.jny
theorem CTn.keep {w w' : World} {t : Tn} {cs : List Value} (h : CTn w t cs) (k : Keeps 3 w w') : CTn w' t cs := by
  obtain ⟨vj, e, a⟩ := h
  exact ⟨vj, e, a.keep k⟩
def trainL (s : ByteArray) (p : Nat) : Bool × Nat × Tn :=
  if inB 97 112 (pk s p) = false then (false, p, Tn0)
  else (decide (0 < (capsL s 300 (p + 1)).1.length), (capsL s 300 (p + 1)).2, ⟨pk s p - 97, (capsL s 300 (p + 1)).1⟩)
theorem store2 {W : World} {b : Nat} {t : TypeId} (hT : Typed W b t) (u0 u1 : Value) : (∀ e, t ≠ e -> Keeps e W ((W.setCell ⟨b, 0, none⟩ u0).setCell ⟨b, 1, none⟩ u1)) := by
  have h1 := hT.setCell ⟨b, 0, none⟩ u0
  exact fun e he => (Keeps.setCell ⟨b, 0, none⟩ u0 hT he).trans (Keeps.setCell ⟨b, 1, none⟩ u1 h1 he)
theorem gr_drew {w w1 : World} {r : Option Nat} (h : w.grownBy w1 r) : w.grownBy w1.drew r := ⟨h.os, h.tape, h.output, h.size, h.block⟩
theorem own_set {w : World} {B : Nat} {e e' : TypeId} {size n : Nat} {v : Value} {xs : List Value} (h : w.ownsRow B e size v n xs) (g j : Nat) (u : Value) (hT : Typed w g e') (hne : e' ≠ e) : (w.setCell ⟨g, j, none⟩ u).ownsRow B e size v n xs :=
  ownsRow_keep h (Keeps.setCell ⟨g, j, none⟩ u hT hne)
set_option maxHeartbeats 1000000 in
theorem train_clo (b : Nat) (s : ByteArray) (p : Nat) (w : World) (h : Cur w b s p) (hs : s.size <= 256) (hp : p <= s.size) :
    Calls Tryz.prog 207 #[.pointer (some ⟨b, 0, none⟩)] w fun e w' => ∃ (t : Int) (a1 : Option Addr) (n1 c1 : Nat), e = .returned (.tuple #[.agg #[.int .i64 t, .slice a1 n1 c1], .bool (trainL s p).1]) ∧
      ((trainL s p).1 = true -> CTn w' (trainL s p).2.2 [.int .i64 t, .slice a1 n1 c1]) /\ Cur w' b s (trainL s p).2.1 /\ (trainL s p).2.1 <= s.size /\ w.grownBy w' (some b) /\ LoC w.heap.size [.int .i64 t, .slice a1 n1 c1] := by
  have hbw := h.cells.2.2.2.2
  obtain ⟨i0, hi0⟩ := info_parts Tryz.infoInt
  have HI := hide hi0
  clear hi0
  obtain ⟨Z, hZ⟩ : ∃ Z, Z = trainL s p := ⟨_, rfl⟩
  rw [<- hZ]
  unfold trainL at hZ
  have H1 := hide (fun w (h : Cur w b s p) => takeLetter_any b s p w h hs hp)
  have h2 := (h.alloc (.cells #[.int .i64 0, .slice none 0 0] 218)).alloc (.cells #[.int .i64 0, .slice none 0 0] 218)
  have g2 := gr_alloc (gr_alloc (gr_refl w (some b)) (.cells #[.int .i64 0, .slice none 0 0] 218)) (.cells #[.int .i64 0, .slice none 0 0] 218)
  have B1 := blk1 w (.cells #[.int .i64 0, .slice none 0 0] 218) (.cells #[.int .i64 0, .slice none 0 0] 218)
  have B2 := blk2 w (.cells #[.int .i64 0, .slice none 0 0] 218) (.cells #[.int .i64 0, .slice none 0 0] 218)
  have G := hide (And.intro h2 (And.intro g2 (And.intro B1 B2)))
  have hne1 : w.heap.size ≠ b := by omega
  have hne2 : w.heap.size + 1 ≠ b := by omega
  have HZ := hide hZ
  clear h2 g2 B1 B2 hZ
  go_enter Tryz.func207, Tryz.ntmps207
  go_wp2_with fail
  refine (uh H1 _ (uh G).1).mono ?_
  rintro e w1 ⟨rfl, a1, a2, a3⟩
  have D := hide (And.intro (blk_gr (uh G).2.2.1 a3 hne1) (And.intro (blk_gr (uh G).2.2.2 a3 hne2) (gr_trans (uh G).2.1 a3)))
  have A := hide (And.intro a1 a2)
  clear G a1 a2 a3
  obtain ⟨⟨r0, r1⟩, ⟨f0, f1⟩, q1⟩ := duo0 (uh D).1
  obtain ⟨⟨l0, l1⟩, ⟨k0, k1⟩, q2⟩ := duo0 (uh D).2.1
  cases hin : inB 97 112 (pk s p) with
  | false =>
    rw [hin, if_pos rfl] at HZ
    rw [hin] at A
    clear hin
    go_wp2
    refine bodyPost_ret (v := .tuple #[.agg #[.int .i64 0, .slice none 0 0], .bool false]) (by simp [results, Tryz.results207, go_sem, r0, r1]) rfl ?_
    refine ⟨_, _, _, _, by rw [uh HZ] <;> rfl, fun h => absurd h (by rw [uh HZ]; simp), ?_, ?_, gr_new (gr_new (uh D).2.2 _ _ _ (Nat.le_refl _)) _ _ _ (Nat.le_refl _), lo2 (Lo.nil _ _ _)⟩
    · rw [uh HZ]; exact ((uh A).1.setCell _ _ _ (Ne.symm hne1)).setCell _ _ _ (Ne.symm hne1)
    · rw [uh HZ]; exact (uh A).2
  | true =>
    rw [hin, if_neg (by simp)] at HZ
    rw [hin] at A
    have hoff : offB 97 112 (pk s p) = pk s p - 97 := by unfold offB; rw [hin]; rfl
    rw [hoff]
    clear hin hoff
    have hp1 : p + 1 <= s.size := (uh A).2
    have hc256 := pk_lt s p
    generalize pk s p = c at *
    have hL2 := blk_setCell (j := 0) (.int .i64 ((c - 97 : Nat) : Int)) (uh D).2.1
    have hR2 : (w1.setCell ⟨w.heap.size + 1, 0, none⟩ (.int .i64 ((c - 97 : Nat) : Int))).heap[w.heap.size]? = _ := (Below.heap_setCell w1 ⟨w.heap.size + 1, 0, none⟩ (.int .i64 ((c - 97 : Nat) : Int)) w.heap.size (by simp)).trans (uh D).1
    have hG2 := gr_new (uh D).2.2 (w.heap.size + 1) 0 (.int .i64 ((c - 97 : Nat) : Int)) (by omega)
    have hC2 := (uh A).1.setCell (w.heap.size + 1) 0 (.int .i64 ((c - 97 : Nat) : Int)) (Ne.symm hne2)
    have H3 := hide (takeCapital_any b s (p + 1) _ hC2 hs hp1)
    have D2 := hide (And.intro hR2 (And.intro hL2 hG2))
    clear D A hL2 hR2 hG2 hC2
    go_wp2_with fail
    refine (uh H3).mono ?_
    rintro e w3 ⟨rfl, a1, a2, a3⟩
    have hL3 : w3.heap[w.heap.size + 1]? = some (.cells #[.int .i64 ((c - 97 : Nat) : Int), .slice none 0 0] 218 (0, 0)) := blk_gr (uh D2).2.1 a3 hne2
    have A := hide (And.intro (blk_gr (uh D2).1 a3 hne1) (And.intro hL3 (And.intro (gr_trans (uh D2).2.2 a3) (And.intro a1 a2))))
    obtain ⟨CL, hCL⟩ : ∃ CL, CL = capsL s 300 (p + 1) := ⟨_, rfl⟩
    rw [<- hCL] at HZ
    have HCL := hide hCL
    clear D2 H3 r0 r1 f0 f1 q1 l0 l1 k0 k1 q2 a1 a2 a3 hL3 hCL
    go_wp2
    go_loopg [7, 6] 300 (fun f n t wr => ∃ q : Nat, ∃ acc vj, n = .int .i64 (offB 65 76 (pk s q) : Nat) /\ t = .bool (inB 65 76 (pk s q)) /\ acc.length <= q /\ q <= s.size /\ s.size < q + f ∧
        wr.ownsRow (w.heap.size + 2) 3 1 vj acc.length (intsV acc) /\ CL = (acc ++ (capsL s f q).1, (capsL s f q).2) /\ wr.heap[w.heap.size]? = some (.cells #[.int .i64 0, .slice none 0 0] 218 (0, 0)) ∧
        wr.heap[w.heap.size + 1]? = some (.cells #[.int .i64 ((c - 97 : Nat) : Int), vj] 218 (0, 0)) /\ Cur wr b s (adv (inB 65 76 (pk s q)) q) /\ adv (inB 65 76 (pk s q)) q <= s.size /\ w.grownBy wr (some b))
    case atStart => exact ⟨p + 1, [], _, rfl, rfl, Nat.zero_le _, hp1, by omega, World.ownsRow_nil _ _ _ _, uh HCL, (uh A).1, (uh A).2.1, (uh A).2.2.2.1, (uh A).2.2.2.2, (uh A).2.2.1⟩
    case round =>
      clear A
      obtain ⟨q, acc, vj, rfl, rfl, hac, hq, hf, hown, hCL2, hRB, hLB, hC, hle, hg⟩ := hrel
      obtain ⟨f, hfe⟩ : ∃ f, gk = f + 1 := ⟨gk - 1, by omega⟩
      subst hfe
      obtain ⟨⟨r0, r1⟩, ⟨f0, f1⟩, q1⟩ := duo0 hRB
      obtain ⟨⟨l0, l1⟩, ⟨k0, k1⟩, q2⟩ := duo0 hLB
      obtain ⟨aj, cj, hvj⟩ := slice_of_own hown
      subst hvj
      cases hin : inB 65 76 (pk s q) with
      | false =>
        rw [hin] at hC hle
        have hCL3 : CL = (acc, q) := by rw [hCL2]; simp [capsL, hin]
        rw [hCL3] at HZ
        have F := hide (And.intro (Ints.ofOwn hown rfl) (And.intro hC (And.intro hle hg)))
        have FLO := hide ((Lo.of hown).mono (m := w.heap.size) (by omega))
        have kS := hide (store2 (⟨_, _, hRB⟩ : Typed wr w.heap.size 218) (.int .i64 ((c - 97 : Nat) : Int)) (.slice aj acc.length cj) 3 (by decide))
        clear hown hCL2 hCL3 hC hle hg hRB hLB hin HCL
        go_wp2
        go_region
        go_wp2
        refine bodyPost_ret (v := .tuple #[.agg #[.int .i64 ((c - 97 : Nat) : Int), .slice aj acc.length cj], .bool (decide (0 < acc.length))]) (by simp [results, Tryz.results207, go_sem, r0, r1]) rfl ?_
        refine ⟨_, _, _, _, by rw [uh HZ] <;> rfl, fun _ => by rw [uh HZ]; exact ⟨_, rfl, ((uh F).1.keep (uh kS)).keep (Keeps.drew _ _)⟩, ?_, ?_, gr_drew (gr_new (gr_new (uh F).2.2.2 _ _ _ (Nat.le_refl _)) _ _ _ (Nat.le_refl _)), lo2 (uh FLO)⟩
        · rw [uh HZ]; exact ((uh F).2.1.setCell _ _ _ (Ne.symm hne1)).setCell _ _ _ (Ne.symm hne1)
        · rw [uh HZ]; exact (uh F).2.2.1
      | true =>
        rw [hin] at hC hle
        have hoff : offB 65 76 (pk s q) = pk s q - 65 := by unfold offB; rw [hin]; rfl
        rw [hoff]
        have hq1 : q + 1 <= s.size := hle
        have HC2 := hide (show CL = ((acc ++ [pk s q - 65]) ++ (capsL s f (q + 1)).1, (capsL s f (q + 1)).2) by rw [hCL2]; simp [capsL, hin])
        have hd256 := pk_lt s q
        generalize pk s q = d at *
        have hsz : w.heap.size <= wr.heap.size := hg.size
        have F := hide (And.intro hRB (And.intro hLB (And.intro hC hg)))
        have hL := hide (fun w' (h : Cur w' b s (q + 1)) => takeCapital_any b s (q + 1) w' h hs hq1)
        clear hCL2 hin hoff hC hRB hLB HCL hg
        go_wp2_with (first
          | (at_builtin; refine wpList_append_own _ rfl _ _ 50 rfl (w.heap.size + 2) 3 i0 (.int .i64 0) 1 8 Tryz.underlying50 (uh HI).1 (uh HI).2.1 (uh HI).2.2.1 (uh HI).2.2.2 rfl (by decide) _ _ _ rfl (hown.alloc _) ⟨wr.heap.size, 0, none⟩ 1 1 [.int .i64 ((d - 65 : Nat) : Int)] rfl rfl (one_new _ _ _) (one_cell1 rfl) (by unfold maxLen; omega) (by omega) (by simp; omega) ?_; intro v3 w3 hown3 hgrow3 _; have hR3 := (append_keeps hown hgrow3 (by decide) _ _ _ (uh F).1).trans (uh F).1; have hL3 := (append_keeps hown hgrow3 (by decide) _ _ _ (uh F).2.1).trans (uh F).2.1; obtain ⟨aj', cj', hv'⟩ := slice_of_own hown3; subst hv'; have HF3 := hide (And.intro hR3 (And.intro hL3 (And.intro ((uh F).2.2.1.own hown hgrow3 (by decide)) (gr_own (uh F).2.2.2 (by omega) hown hgrow3)))); clear l0 l1 k0 k1 q2 r0 r1 f0 f1 q1 hR3; obtain ⟨⟨l0, l1⟩, ⟨k0, k1⟩, q2⟩ := duo0 hL3; clear hL3)
          | (go_at_call 219; refine (uh hL _ ((uh HF3).2.2.1.setCell _ _ _ (Ne.symm hne2))).mono ?_; rintro e w4 ⟨rfl, a1, a2, a3⟩))
        have hL4 : w4.heap[w.heap.size + 1]? = some (.cells #[.int .i64 ((c - 97 : Nat) : Int), .slice aj' (acc.length + 1) cj'] 218 (0, 0)) := blk_gr (blk_setCell (j := 1) _ (uh HF3).2.1) a3 hne2
        have hR4 := blk_gr ((Below.heap_setCell w3 ⟨w.heap.size + 1, 1, none⟩ (.slice aj' (acc.length + 1) cj') w.heap.size (by simp)).trans (uh HF3).1) a3 hne1
        have hown4 := own_gr (own_set hown3 (w.heap.size + 1) 1 (.slice aj' (acc.length + 1) cj') ⟨_, _, (uh HF3).2.1⟩ (by decide)) a3 (by omega)
        rw [<- intsV_snoc] at hown4
        go_roundg f
        case measure => omega
        case rel => exact ⟨q + 1, acc ++ [d - 65], _, rfl, rfl, by simp; omega, hq1, by omega, by simpa using hown4, uh HC2, hR4, hL4, a1, a2, gr_trans (gr_new (uh HF3).2.2.2 _ _ _ (by omega)) a3⟩
end Go.Proofs.YtkbpocecbcaiiaaGreatDoor
