import Derived.Test.YtkbpocecbcaiiaaGreatDoorJ2
import Derived.Deep.LoopGhost
namespace Go.Proofs.YtkbpocecbcaiiaaGreatDoor
open Go.RowKit
def Cur (w : World) (b : Nat) (s : ByteArray) (p : Nat) : Prop := w.heap[b]? = some (.cells #[.string s, .int .i64 p] 211 (0, 0))
def pk (s : ByteArray) (p : Nat) : Nat := (s.data.toList.getD p 0).toNat
theorem pk_lt (s : ByteArray) (p : Nat) : pk s p < 256 := UInt8.toNat_lt _
theorem pk_in (s : ByteArray) (p : Nat) (h : p < s.size) : pk s p = s[p].toNat := by
 unfold pk
 rw [List.getD_eq_getElem?_getD, List.getElem?_eq_getElem (by simpa using h)]; rfl
theorem pk_end (s : ByteArray) (p : Nat) (h : ¬ p < s.size) : pk s p = 0 := by
 unfold pk
 rw [List.getD_eq_getElem?_getD, List.getElem?_eq_none (by simp; omega)]; rfl
theorem pk_pos (s : ByteArray) (p : Nat) (h : pk s p ≠ 0) : p < s.size := by
 rcases Nat.lt_or_ge p s.size with h' | h'
 ·exact h'
 ·exact absurd (pk_end s p (by omega)) h
theorem Cur.cells {w : World} {b : Nat} {s : ByteArray} {p : Nat} (h : Cur w b s p) : w.cell? ⟨b, 0, none⟩ = some (.string s) /\ w.cell? ⟨b, 1, none⟩ = some (.int .i64 p) /\ w.frozen? ⟨b, 0, none⟩ = false /\ w.frozen? ⟨b, 1, none⟩ = false /\ b < w.heap.size := by
 unfold Cur at h
 refine ⟨z13 h 0, z13 h 1, by simp [World.frozen?, h], by simp [World.frozen?, h], ?_⟩
 rcases Nat.lt_or_ge b w.heap.size with h' | h'
 ·exact h'
 ·rw [Array.getElem?_eq_none h'] at h; cases h
theorem Cur.set {w : World} {b : Nat} {s : ByteArray} {p : Nat} (h : Cur w b s p) (q : Nat) : Cur (w.setCell ⟨b, 1, none⟩ (.int .i64 q)) b s q := by
 unfold Cur at h ⊢
 rw [heap_setCell_same w b 1 _ _ _ h]; rfl
theorem ret_ib {a b : Int} {c : Bool} (h : a = b) : Ending.returned (.tuple #[.int .i64 a, .bool c]) = .returned (.tuple #[.int .i64 b, .bool c]) := by rw [h]
theorem gr_refl (w : World) (r : Option Nat) : w.grownBy w r := ⟨rfl, rfl, rfl, Nat.le_refl _, fun _ _ _ => rfl⟩
theorem z0x {a b c : World} {r : Option Nat} (h : a.grownBy b r) (k : b.grownBy c r) : a.grownBy c r :=
 ⟨k.os.trans h.os, k.tape.trans h.tape, k.output.trans h.output, Nat.le_trans h.size k.size, fun i hi hn => (k.block i (Nat.lt_of_lt_of_le hi h.size) hn).trans (h.block i hi hn)⟩
theorem gr_set (w : World) (b j : Nat) (u : Value) : w.grownBy (w.setCell ⟨b, j, none⟩ u) (some b) :=
 ⟨rfl, rfl, rfl, by simp [World.setCell], fun k _ hn => Below.heap_setCell _ _ _ _ (fun e => hn (by rw [e]))⟩
theorem z2o (w : World) (n : Nat) (r : Option Nat) : w.grownBy (w.drewN n) r := ⟨rfl, rfl, rfl, Nat.le_refl _, fun _ _ _ => rfl⟩
theorem z3q {w w' : World} (h : w.grownBy w' none) (r : Option Nat) : w.grownBy w' r := ⟨h.os, h.tape, h.output, h.size, fun k hk _ => h.block k hk (by simp)⟩
theorem Cur.gr {w w' : World} {b : Nat} {s : ByteArray} {p : Nat} {r : Option Nat} (h : Cur w b s p) (hg : w.grownBy w' r) (hn : some b ≠ r) : Cur w' b s p := by
 have := h.cells.2.2.2.2
 unfold Cur at h ⊢
 rw [hg.block b this hn]; exact h
set_option maxHeartbeats 400000 in
theorem peek_any (b : Nat) (s : ByteArray) (p : Nat) (w : World) (h : Cur w b s p) (hp : p <= s.size) :
  Calls Tryz.prog 205 #[.pointer (some ⟨b, 0, none⟩)] w fun e w' => e = .returned (.int .u8 (pk s p)) /\ w.grownBy w' none := by
 obtain ⟨h0, h1, -, -, hb⟩ := h.cells
 clear h
 by_cases hlt : p < s.size
 ·have HP := zh (pk_in s p hlt)
  have d : decide ((s.size : Int) <= (p : Int)) = false := by simp; omega
  have d0 : (0 : Int) <= p := by omega
  have d1 : (p : Int) < s.size := by omega
  go_enter Tryz.func205, Tryz.ntmps205
  go_wp2
  go_quiet (fail)
  go_wp2
  go_quiet (fail)
  go_wp2
  go_ret
  exact ⟨z11 (by rw [uh HP]), z0x (z2o _ _ _) (z2o _ _ _)⟩
 ·have HP := zh (pk_end s p hlt)
  have d : decide ((s.size : Int) <= (p : Int)) = true := by simp; omega
  go_enter Tryz.func205, Tryz.ntmps205
  go_wp2
  go_quiet (fail)
  go_wp2
  go_ret
  exact ⟨z11 (by rw [uh HP]; rfl), z2o _ _ _⟩
def adv (c : Bool) (p : Nat) : Nat := if c then p + 1 else p
set_option maxHeartbeats 400000 in
theorem z2p (b : Nat) (s : ByteArray) (p want : Nat) (w : World) (h : Cur w b s p) (hs : s.size <= 256) (hp : p <= s.size) (hw : want ≠ 0) :
  Calls Tryz.prog 185 #[.pointer (some ⟨b, 0, none⟩), .int .u8 want] w fun e w' => e = .returned (.bool (pk s p == want)) /\ Cur w' b s (adv (pk s p == want) p) /\ adv (pk s p == want) p <= s.size /\ w.grownBy w' (some b) := by
 have HPK := zh (peek_any b s p w h hp)
 have HPOS := zh (pk_pos s p)
 have hc256 := pk_lt s p
 generalize pk s p = c at *
 by_cases hc : c = want
 ·have d : ((c : Int) != (want : Int)) = false := by simp; omega
  have hb : (c == want) = true := by simpa using hc
  have hlt := uh HPOS (by omega)
  rw [hb]
  go_enter Tryz.func185, Tryz.ntmps185
  clear hc hb
  go_wp2_with fail
  refine (uh HPK).mono ?_
  rintro e w1 ⟨rfl, hg1⟩
  have hC1 := h.gr hg1 (by simp)
  obtain ⟨h0, h1, h2, h3, hb1⟩ := hC1.cells
  have HC1 := zh hC1
  have HG1 := zh hg1
  clear hC1 hg1 h
  go_wp2
  go_ret
  have hcast : (p : Int) + 1 = ((p + 1 : Nat) : Int) := by omega
  rw [hcast]
  exact ⟨rfl, (uh HC1).set (p + 1), by show p + 1 <= s.size; exact hlt, z0x (z3q (uh HG1) _) (gr_set _ _ _ _)⟩
 ·have d : ((c : Int) != (want : Int)) = true := by simp; omega
  have hb : (c == want) = false := by simpa using hc
  rw [hb]
  go_enter Tryz.func185, Tryz.ntmps185
  clear hc hb
  go_wp2_with fail
  refine (uh HPK).mono ?_
  rintro e w1 ⟨rfl, hg1⟩
  have HC1 := zh (h.gr hg1 (by simp))
  have HG1 := zh hg1
  clear hg1 h
  go_wp2
  go_ret
  exact ⟨rfl, uh HC1, hp, z3q (uh HG1) _⟩
def inB (lo hi c : Nat) : Bool := decide (lo <= c) && decide (c <= hi)
def offB (lo hi c : Nat) : Nat := if inB lo hi c then c - lo else 0
set_option maxHeartbeats 400000 in
theorem z3i (b : Nat) (s : ByteArray) (p lo hi : Nat) (w : World) (h : Cur w b s p) (hp : p <= s.size) (hs : s.size <= 256) (hl : 0 < lo) (hh : hi < 256) :
  Calls Tryz.prog 204 #[.pointer (some ⟨b, 0, none⟩), .int .u8 lo, .int .u8 hi] w fun e w' =>
   e = .returned (.tuple #[.int .i64 (offB lo hi (pk s p) : Nat), .bool (inB lo hi (pk s p))]) /\ Cur w' b s (adv (inB lo hi (pk s p)) p) /\ adv (inB lo hi (pk s p)) p <= s.size /\ w.grownBy w' (some b) := by
 have _ := hh
 have HPK := zh (peek_any b s p w h hp)
 have HPOS := zh (pk_pos s p)
 have hc256 := pk_lt s p
 generalize pk s p = c at *
 by_cases c1 : c < lo
 ·have hb : inB lo hi c = false := by unfold inB; simp; omega
  have ho : offB lo hi c = 0 := by unfold offB; rw [hb]; rfl
  rw [ho, hb]
  have c1' : (c : Int) < lo := by omega
  go_enter Tryz.func204, Tryz.ntmps204
  clear hb ho
  go_wp2_with fail
  refine (uh HPK).mono ?_
  rintro e w1 ⟨rfl, hg1⟩
  have HC1 := zh (h.gr hg1 (by simp))
  have HG1 := zh hg1
  clear hg1 h
  go_wp2
  go_ret2
  exact ⟨rfl, uh HC1, hp, z3q (uh HG1) _⟩
 by_cases c2 : hi < c
 ·have hb : inB lo hi c = false := by unfold inB; simp; omega
  have ho : offB lo hi c = 0 := by unfold offB; rw [hb]; rfl
  rw [ho, hb]
  have c1' : ¬ (c : Int) < lo := by omega
  have c2' : (hi : Int) < c := by omega
  go_enter Tryz.func204, Tryz.ntmps204
  clear hb ho
  go_wp2_with fail
  refine (uh HPK).mono ?_
  rintro e w1 ⟨rfl, hg1⟩
  have HC1 := zh (h.gr hg1 (by simp))
  have HG1 := zh hg1
  clear hg1 h
  go_wp2
  go_ret2
  exact ⟨rfl, uh HC1, hp, z3q (uh HG1) _⟩
 ·have hb : inB lo hi c = true := by unfold inB; simp; omega
  have ho : offB lo hi c = c - lo := by unfold offB; rw [hb]; rfl
  have hlt := uh HPOS (by omega)
  rw [ho, hb]
  have c1' : ¬ (c : Int) < lo := by omega
  have c2' : ¬ (hi : Int) < c := by omega
  go_enter Tryz.func204, Tryz.ntmps204
  clear hb ho
  go_wp2_with fail
  refine (uh HPK).mono ?_
  rintro e w1 ⟨rfl, hg1⟩
  have hC1 := h.gr hg1 (by simp)
  obtain ⟨h0, h1, h2, h3, hb1⟩ := hC1.cells
  have HC1 := zh hC1
  have HG1 := zh hg1
  clear hC1 hg1 h
  go_wp2
  go_ret2
  have hcast : (p : Int) + 1 = ((p + 1 : Nat) : Int) := by omega
  rw [hcast]
  exact ⟨ret_ib (by show (c : Int) - lo = ((c - lo : Nat) : Int); omega), (uh HC1).set (p + 1), by show p + 1 <= s.size; exact hlt, z0x (z3q (uh HG1) _) (gr_set _ _ _ _)⟩
set_option maxHeartbeats 400000 in
theorem z1g (b : Nat) (s : ByteArray) (p : Nat) (w : World) (h : Cur w b s p) (hs : s.size <= 256) (hp : p <= s.size) :
  Calls Tryz.prog 216 #[.pointer (some ⟨b, 0, none⟩)] w fun e w' =>
   e = .returned (.tuple #[.int .i64 (offB 97 112 (pk s p) : Nat), .bool (inB 97 112 (pk s p))]) /\ Cur w' b s (adv (inB 97 112 (pk s p)) p) /\ adv (inB 97 112 (pk s p)) p <= s.size /\ w.grownBy w' (some b) := by
 have H := zh (z3i b s p 97 112 w h hp hs (by omega) (by omega))
 generalize pk s p = c at *
 generalize offB 97 112 c = n at *
 generalize inB 97 112 c = t at *
 go_enter Tryz.func216, Tryz.ntmps216
 go_wp2_with fail
 refine (uh H).mono ?_
 rintro e w1 ⟨rfl, a1, a2, a3⟩
 go_wp2
 go_ret2
 exact ⟨rfl, a1, a2, a3⟩
set_option maxHeartbeats 400000 in
theorem z3g (b : Nat) (s : ByteArray) (p : Nat) (w : World) (h : Cur w b s p) (hs : s.size <= 256) (hp : p <= s.size) :
  Calls Tryz.prog 219 #[.pointer (some ⟨b, 0, none⟩)] w fun e w' =>
   e = .returned (.tuple #[.int .i64 (offB 65 76 (pk s p) : Nat), .bool (inB 65 76 (pk s p))]) /\ Cur w' b s (adv (inB 65 76 (pk s p)) p) /\ adv (inB 65 76 (pk s p)) p <= s.size /\ w.grownBy w' (some b) := by
 have H := zh (z3i b s p 65 76 w h hp hs (by omega) (by omega))
 generalize pk s p = c at *
 generalize offB 65 76 c = n at *
 generalize inB 65 76 c = t at *
 go_enter Tryz.func219, Tryz.ntmps219
 go_wp2_with fail
 refine (uh H).mono ?_
 rintro e w1 ⟨rfl, a1, a2, a3⟩
 go_wp2
 go_ret2
 exact ⟨rfl, a1, a2, a3⟩
def sgn (c : Nat) : Nat := if c = 43 then 43 else if c = 45 then 45 else 0
set_option maxHeartbeats 400000 in
theorem takeSign_any (b : Nat) (s : ByteArray) (p : Nat) (w : World) (h : Cur w b s p) (hs : s.size <= 256) (hp : p <= s.size) :
  Calls Tryz.prog 222 #[.pointer (some ⟨b, 0, none⟩)] w fun e w' =>
   e = .returned (.int .u8 (sgn (pk s p))) /\ Cur w' b s (adv (sgn (pk s p) != 0) p) /\ adv (sgn (pk s p) != 0) p <= s.size /\ w.grownBy w' (some b) := by
 have H1 := zh (z2p b s p 43 w h hs hp (by omega))
 have H2 := zh (fun w' (h : Cur w' b s p) => z2p b s p 45 w' h hs hp (by omega))
 generalize pk s p = c at *
 by_cases c1 : c = 43
 ·subst c1
  go_enter Tryz.func222, Tryz.ntmps222
  go_wp2_with fail
  refine (uh H1).mono ?_
  rintro e w1 ⟨rfl, a1, a2, a3⟩
  have A := zh (And.intro a1 (And.intro a2 a3))
  clear a1 a2 a3
  go_wp2
  go_ret
  exact ⟨rfl, (uh A).1, (uh A).2.1, (uh A).2.2⟩
 have d1 : (c == 43) = false := by simpa using c1
 rw [d1] at H1
 by_cases c2 : c = 45
 ·subst c2
  go_enter Tryz.func222, Tryz.ntmps222
  clear c1 d1
  go_wp2_with fail
  refine (uh H1).mono ?_
  rintro e w1 ⟨rfl, a1, a2, a3⟩
  have A := zh (And.intro a1 (And.intro a2 a3))
  clear a1 a2 a3
  go_wp2_with fail
  refine (uh H2 _ (uh A).1).mono ?_
  rintro e w2 ⟨rfl, b1, b2, b3⟩
  have B := zh (And.intro b1 (And.intro b2 b3))
  clear b1 b2 b3
  go_wp2
  go_ret
  exact ⟨rfl, (uh B).1, (uh B).2.1, z0x (uh A).2.2 (uh B).2.2⟩
 ·have d2 : (c == 45) = false := by simpa using c2
  have hz : sgn c = 0 := by unfold sgn; rw [if_neg c1, if_neg c2]
  rw [d2] at H2
  rw [hz]
  go_enter Tryz.func222, Tryz.ntmps222
  clear c1 d1 c2 d2 hz
  go_wp2_with fail
  refine (uh H1).mono ?_
  rintro e w1 ⟨rfl, a1, a2, a3⟩
  have A := zh (And.intro a1 (And.intro a2 a3))
  clear a1 a2 a3
  go_wp2_with fail
  refine (uh H2 _ (uh A).1).mono ?_
  rintro e w2 ⟨rfl, b1, b2, b3⟩
  have B := zh (And.intro b1 (And.intro b2 b3))
  clear b1 b2 b3
  go_wp2
  go_ret
  exact ⟨rfl, (uh B).1, (uh B).2.1, z0x (uh A).2.2 (uh B).2.2⟩
end Go.Proofs.YtkbpocecbcaiiaaGreatDoor
namespace Go.Proofs.YtkbpocecbcaiiaaGreatDoor
def pathL (s : ByteArray) : Nat -> Nat -> List (Nat × Nat) × Nat
 | 0, p => ([], p)
 | f + 1, p => if inB 97 112 (pk s p) then
   (((pk s p - 97, sgn (pk s (p + 1))) :: (pathL s f (adv (sgn (pk s (p + 1)) != 0) (p + 1))).1), (pathL s f (adv (sgn (pk s (p + 1)) != 0) (p + 1))).2)
  else ([], p)
def z0y (s : ByteArray) : Nat -> Nat -> List (Nat × Nat) × Nat × Bool
 | 0, p => ([], p, true)
 | f + 1, p => if inB 97 112 (pk s p) then
   if sgn (pk s (p + 1)) = 0 then ([], p + 1, false)
   else (((pk s p - 97, sgn (pk s (p + 1))) :: (z0y s f (p + 2)).1), (z0y s f (p + 2)).2)
  else ([], p, true)
def capsL (s : ByteArray) : Nat -> Nat -> List Nat × Nat
 | 0, p => ([], p)
 | f + 1, p => if inB 65 76 (pk s p) then (((pk s p - 65) :: (capsL s f (p + 1)).1), (capsL s f (p + 1)).2) else ([], p)
end Go.Proofs.YtkbpocecbcaiiaaGreatDoor
namespace Go.Proofs.YtkbpocecbcaiiaaGreatDoor
open Go.RowKit
theorem Tryz.infoItem : (Tryz.prog.info? 196).map (fun i => (i.zero, i.size, i.bytes)) = some (some (.agg #[.int .i64 0, .int .u8 0]), 2, 16) := by kernel_rfl
def itemV (x : Nat × Nat) : List Value := [.int .i64 x.1, .int .u8 x.2]
def itemsV (l : List (Nat × Nat)) : List Value := (l.map itemV).flatten
theorem z39 (l : List (Nat × Nat)) (x : Nat × Nat) : itemsV (l ++ [x]) = itemsV l ++ [.int .i64 x.1, .int .u8 x.2] := by simp [itemsV, itemV]
def CItem (_ : World) (x : Nat × Nat) (cs : List Value) : Prop := cs = itemV x
def Items (w : World) (v : Value) (l : List (Nat × Nat)) : Prop := SlAt 196 2 CItem w v l
theorem Items.keep {w w' : World} {v : Value} {l : List (Nat × Nat)} (h : Items w v l) (k : Keeps 196 w w') : Items w' v l := SlAt.keep h k (fun _ _ h => h)
theorem Items.ofOwn {w : World} {base : Nat} {v : Value} {l : List (Nat × Nat)} {n : Nat} (h : w.ownsRow base 196 2 v n (itemsV l)) (hn : n = l.length) : Items w v l := by
 refine SlAt.ofOwnN (css := l.map itemV) h ?_ ?_ hn
 ·clear h hn
  induction l with
  | nil => trivial
  | cons a l ih => exact ⟨rfl, ih⟩
 ·intro c hc
  obtain ⟨a, -, rfl⟩ := List.mem_map.1 hc
  rfl
theorem gr_own {b : Nat} {w w1 w2 : World} {o : Obj} {v : Value} {e : TypeId} {size n : Nat} {xs : List Value} {B : Nat} (h : w.grownBy w1 (some b)) (hB : w.heap.size <= B)
  (hown : w1.ownsRow B e size v n xs) (hg : (w1.alloc o).grownBy w2 v.ownBlock) : w.grownBy w2 (some b) := by
 refine ⟨hg.os.trans h.os, hg.tape.trans h.tape, hg.output.trans h.output, Nat.le_trans h.size (Nat.le_trans (by simp) hg.size), fun k hk hn => ?_⟩
 have hk1 : k < w1.heap.size := Nat.lt_of_lt_of_le hk h.size
 have h1 : (w1.alloc o).heap[k]? = w1.heap[k]? := Below.heap_alloc _ _ _ hk1
 have h2 : w2.heap[k]? = (w1.alloc o).heap[k]? := hg.block k (by simp; omega) (fun e => by have := (hown.lt k e.symm).1; omega)
 rw [h2, h1]
 exact h.block k hk hn
theorem Cur.own {b : Nat} {w1 w2 : World} {s : ByteArray} {p : Nat} {o : Obj} {v : Value} {e : TypeId} {size n : Nat} {xs : List Value} {B : Nat} (h : Cur w1 b s p)
  (hown : w1.ownsRow B e size v n xs) (hg : (w1.alloc o).grownBy w2 v.ownBlock) (hne : e ≠ 211) : Cur w2 b s p :=
 (z07 hown hg hne _ _ _ h).trans h
theorem own_gr {b : Nat} {w w' : World} {B : Nat} {e : TypeId} {size n : Nat} {v : Value} {xs : List Value} (h : w.ownsRow B e size v n xs) (hg : w.grownBy w' (some b)) (hb : b < B) : w'.ownsRow B e size v n xs := by
 refine h.kept hg ?_
 rcases h.2 with ⟨rfl, -⟩ | ⟨g, cap, cur, rfl, hg', -⟩
 ·exact .inl rfl
 ·right; simp only [Value.ownBlock, ne_eq, Option.some.injEq]; omega
set_option maxHeartbeats 1000000 in
theorem path_lo (b : Nat) (s : ByteArray) (p : Nat) (w : World) (h : Cur w b s p) (hs : s.size <= 256) (hp : p <= s.size) :
  Calls Tryz.prog 217 #[.pointer (some ⟨b, 0, none⟩)] w fun e w' => ∃ v, e = .returned (.tuple #[v, .bool (decide (0 < (pathL s 300 p).1.length))]) ∧
   Items w' v (pathL s 300 p).1 /\ Cur w' b s (pathL s 300 p).2 /\ (pathL s 300 p).2 <= s.size /\ w.grownBy w' (some b) /\ Lo w.heap.size v := by
 obtain ⟨i0, hi0⟩ := info_parts Tryz.infoItem
 have HI := zh hi0
 clear hi0
 have hbw := h.cells.2.2.2.2
 obtain ⟨Z, hZ⟩ : ∃ Z, Z = pathL s 300 p := ⟨_, rfl⟩
 rw [<- hZ]
 have H1 := zh (z1g b s p w h hs hp)
 go_enter Tryz.func217, Tryz.ntmps217
 go_wp2_with fail
 refine (uh H1).mono ?_
 rintro e w1 ⟨rfl, a1, a2, a3⟩
 have A := zh (And.intro a1 (And.intro a2 (And.intro a3 hZ)))
 clear a1 a2 a3 hZ
 go_wp2
 go_loopg [4, 5, 6] 300 (fun f l n t wr => ∃ q : Nat, ∃ acc, n = .int .i64 (offB 97 112 (pk s q) : Nat) /\ t = .bool (inB 97 112 (pk s q)) /\ acc.length <= q /\ q <= s.size /\ s.size < q + f ∧
   wr.ownsRow w.heap.size 196 2 l acc.length (itemsV acc) /\ Z = (acc ++ (pathL s f q).1, (pathL s f q).2) /\ Cur wr b s (adv (inB 97 112 (pk s q)) q) /\ adv (inB 97 112 (pk s q)) q <= s.size /\ w.grownBy wr (some b))
 case atStart => exact ⟨p, [], rfl, rfl, Nat.zero_le _, hp, by omega, World.ownsRow_nil _ _ _ _, (uh A).2.2.2, (uh A).1, (uh A).2.1, (uh A).2.2.1⟩
 case round =>
  clear A
  obtain ⟨q, acc, rfl, rfl, hac, hq, hf, hown, hZ, hC, hle, hg⟩ := hrel
  obtain ⟨f, hfe⟩ : ∃ f, gk = f + 1 := ⟨gk - 1, by omega⟩
  subst hfe
  cases hin : inB 97 112 (pk s q) with
  | false =>
   rw [hin] at hC hle
   have hZ2 : Z = (acc, q) := by rw [hZ]; simp [pathL, hin]
   have F := zh (And.intro (Items.ofOwn hown rfl) (And.intro hC (And.intro hle (And.intro hg hZ2))))
   have FLO := zh (Lo.of hown)
   obtain ⟨al, cl, hv⟩ := z03 hown
   subst hv
   clear hown hZ hC hle hg hZ2
   go_wp2
   go_ret2
   obtain ⟨F1, F2, F3, F4, F5⟩ := uh F
   refine ⟨.slice al acc.length cl, ?_, by rw [F5]; exact F1, by rw [F5]; exact F2, by rw [F5]; exact F3, F4, uh FLO⟩
   rw [F5]; rfl
  | true =>
   rw [hin] at hC hle
   have hoff : offB 97 112 (pk s q) = pk s q - 97 := by unfold offB; rw [hin]; rfl
   rw [hoff]
   have hq1 : q + 1 <= s.size := hle
   have hZ2 : Z = ((acc ++ [(pk s q - 97, sgn (pk s (q + 1)))]) ++ (pathL s f (adv (sgn (pk s (q + 1)) != 0) (q + 1))).1, (pathL s f (adv (sgn (pk s (q + 1)) != 0) (q + 1))).2) := by
    rw [hZ]; simp [pathL, hin]
   have HS := zh (takeSign_any b s (q + 1) wr hC hs hq1)
   have hc256 := pk_lt s q
   have hadv : q + 1 <= adv (sgn (pk s (q + 1)) != 0) (q + 1) := by unfold adv; split <;> omega
   generalize sgn (pk s (q + 1)) = sg at *
   generalize adv (sg != 0) (q + 1) = q2 at *
   generalize pk s q = c at *
   have HZ2 := zh hZ2
   have hsz : w.heap.size <= wr.heap.size := hg.size
   clear hZ2 hZ hin hoff hC
   go_wp2_with fail
   refine (uh HS).mono ?_
   rintro e w2 ⟨rfl, a1, a2, a3⟩
   have hown2 := own_gr hown a3 hbw
   have hg2 := z0x hg a3
   have hsz2 : w.heap.size <= w2.heap.size := hg2.size
   have A := zh (And.intro a1 (And.intro a2 hg2))
   clear a1 a2 a3 hown hg hg2
   have hL := zh (fun w' (h : Cur w' b s q2) => z1g b s q2 w' h hs)
   go_wp2_with (first
    | (at_builtin; refine wpList_append_own _ rfl _ _ 122 rfl w.heap.size 196 i0 (.agg #[.int .i64 0, .int .u8 0]) 2 16 Tryz.underlying122 (uh HI).1 (uh HI).2.1 (uh HI).2.2.1 (uh HI).2.2.2 rfl (by decide) _ _ _ rfl (hown2.alloc _) ⟨w2.heap.size, 0, none⟩ 1 1 [.int .i64 ((c - 97 : Nat) : Int), .int .u8 sg] rfl rfl (z0h _ [.int .i64 ((c - 97 : Nat) : Int), .int .u8 sg] _ _ rfl) (by simp [Value.oneCell']) (by unfold maxLen; omega) (by omega) (by simp; omega) ?_; intro v3 w3 hown3 hgrow3 _; have HC3 := zh ((uh A).1.own hown2 hgrow3 (by decide)); have HG3 := zh (gr_own (uh A).2.2 (Nat.le_refl _) hown2 hgrow3))
    | (go_at_call 216; refine (uh hL _ (uh HC3) (uh A).2.1).mono ?_; rintro e w4 ⟨rfl, a1, a2, a3⟩))
   have hown4 := own_gr hown3 a3 hbw
   rw [<- z39 acc (c - 97, sg)] at hown4
   go_roundg f
   case measure => omega
   case rel => exact ⟨q2, acc ++ [(c - 97, sg)], rfl, rfl, by simp; omega, (uh A).2.1, by omega, by simpa using hown4, uh HZ2, a1, a2, z0x (uh HG3) a3⟩
set_option maxHeartbeats 1000000 in
theorem flank_lo (b : Nat) (s : ByteArray) (p : Nat) (w : World) (h : Cur w b s p) (hs : s.size <= 256) (hp : p <= s.size) :
  Calls Tryz.prog 218 #[.pointer (some ⟨b, 0, none⟩)] w fun e w' => ∃ a n c, e = .returned (.tuple #[.slice a n c, .bool ((z0y s 300 p).2.2 && decide (0 < (z0y s 300 p).1.length))]) ∧
   ((z0y s 300 p).2.2 = true -> Items w' (.slice a n c) (z0y s 300 p).1) /\ Cur w' b s (z0y s 300 p).2.1 /\ (z0y s 300 p).2.1 <= s.size /\ w.grownBy w' (some b) /\ Lo w.heap.size (.slice a n c) := by
 obtain ⟨i0, hi0⟩ := info_parts Tryz.infoItem
 have HI := zh hi0
 clear hi0
 have hbw := h.cells.2.2.2.2
 obtain ⟨Z, hZ⟩ : ∃ Z, Z = z0y s 300 p := ⟨_, rfl⟩
 rw [<- hZ]
 have H1 := zh (z1g b s p w h hs hp)
 go_enter Tryz.func218, Tryz.ntmps218
 go_wp2_with fail
 refine (uh H1).mono ?_
 rintro e w1 ⟨rfl, a1, a2, a3⟩
 have A := zh (And.intro a1 (And.intro a2 (And.intro a3 hZ)))
 clear a1 a2 a3 hZ
 go_wp2
 go_loopg [4, 5, 6] 300 (fun f l n t wr => ∃ q : Nat, ∃ acc, n = .int .i64 (offB 97 112 (pk s q) : Nat) /\ t = .bool (inB 97 112 (pk s q)) /\ acc.length <= q /\ q <= s.size /\ s.size < q + f ∧
   wr.ownsRow w.heap.size 196 2 l acc.length (itemsV acc) /\ Z = (acc ++ (z0y s f q).1, (z0y s f q).2) /\ Cur wr b s (adv (inB 97 112 (pk s q)) q) /\ adv (inB 97 112 (pk s q)) q <= s.size /\ w.grownBy wr (some b))
 case atStart => exact ⟨p, [], rfl, rfl, Nat.zero_le _, hp, by omega, World.ownsRow_nil _ _ _ _, (uh A).2.2.2, (uh A).1, (uh A).2.1, (uh A).2.2.1⟩
 case round =>
  clear A
  obtain ⟨q, acc, rfl, rfl, hac, hq, hf, hown, hZ, hC, hle, hg⟩ := hrel
  obtain ⟨f, hfe⟩ : ∃ f, gk = f + 1 := ⟨gk - 1, by omega⟩
  subst hfe
  cases hin : inB 97 112 (pk s q) with
  | false =>
   rw [hin] at hC hle
   have hZ2 : Z = (acc, q, true) := by rw [hZ]; simp [z0y, hin]
   have F := zh (And.intro (Items.ofOwn hown rfl) (And.intro hC (And.intro hle (And.intro hg hZ2))))
   have FLO := zh (Lo.of hown)
   obtain ⟨al, cl, hv⟩ := z03 hown
   subst hv
   clear hown hZ hC hle hg hZ2
   go_wp2
   go_ret2
   obtain ⟨F1, F2, F3, F4, F5⟩ := uh F
   refine ⟨al, acc.length, cl, ?_, by rw [F5]; exact fun _ => F1, by rw [F5]; exact F2, by rw [F5]; exact F3, F4, uh FLO⟩
   rw [F5]; simp
  | true =>
   rw [hin] at hC hle
   have hoff : offB 97 112 (pk s q) = pk s q - 97 := by unfold offB; rw [hin]; rfl
   rw [hoff]
   have hq1 : q + 1 <= s.size := hle
   have HS := zh (takeSign_any b s (q + 1) wr hC hs hq1)
   have hc256 := pk_lt s q
   have hsz : w.heap.size <= wr.heap.size := hg.size
   by_cases h0 : sgn (pk s (q + 1)) = 0
   ·have HZ2 := zh (show Z = (acc, q + 1, false) by rw [hZ]; simp [z0y, hin, h0])
    rw [h0] at HS
    generalize pk s q = c at *
    clear hZ hin hoff h0 hown
    go_wp2_with fail
    refine (uh HS).mono ?_
    rintro e w2 ⟨rfl, a1, a2, a3⟩
    have A := zh (And.intro a1 (z0x hg a3))
    clear a1 a2 a3 hg hC
    go_wp2
    go_ret2
    refine ⟨none, 0, 0, by rw [uh HZ2]; rfl, fun h => absurd h (by rw [uh HZ2]; simp), by rw [uh HZ2]; exact (uh A).1, by rw [uh HZ2]; exact hq1, (uh A).2, Lo.nil _ _ _⟩
   ·have hadv : adv (sgn (pk s (q + 1)) != 0) (q + 1) = q + 2 := by unfold adv; simp [h0]
    have hZ2 : Z = ((acc ++ [(pk s q - 97, sgn (pk s (q + 1)))]) ++ (z0y s f (q + 2)).1, (z0y s f (q + 2)).2) := by
     rw [hZ]; simp [z0y, hin, h0]
    rw [hadv] at HS
    generalize sgn (pk s (q + 1)) = sg at *
    generalize pk s q = c at *
    have HZ2 := zh hZ2
    have hsg : ((sg : Int) == 0) = false := by simp; omega
    clear hZ2 hZ hin hoff hC h0
    go_wp2_with fail
    refine (uh HS).mono ?_
    rintro e w2 ⟨rfl, a1, a2, a3⟩
    have hown2 := own_gr hown a3 hbw
    have hg2 := z0x hg a3
    have hsz2 : w.heap.size <= w2.heap.size := hg2.size
    have A := zh (And.intro a1 (And.intro a2 hg2))
    clear a1 a2 a3 hown hg hg2
    have hL := zh (fun w' (h : Cur w' b s (q + 2)) => z1g b s (q + 2) w' h hs)
    go_wp2_with (first
     | (at_builtin; refine wpList_append_own _ rfl _ _ 122 rfl w.heap.size 196 i0 (.agg #[.int .i64 0, .int .u8 0]) 2 16 Tryz.underlying122 (uh HI).1 (uh HI).2.1 (uh HI).2.2.1 (uh HI).2.2.2 rfl (by decide) _ _ _ rfl (hown2.alloc _) ⟨w2.heap.size, 0, none⟩ 1 1 [.int .i64 ((c - 97 : Nat) : Int), .int .u8 sg] rfl rfl (z0h _ [.int .i64 ((c - 97 : Nat) : Int), .int .u8 sg] _ _ rfl) (by simp [Value.oneCell']) (by unfold maxLen; omega) (by omega) (by simp; omega) ?_; intro v3 w3 hown3 hgrow3 _; have HC3 := zh ((uh A).1.own hown2 hgrow3 (by decide)); have HG3 := zh (gr_own (uh A).2.2 (Nat.le_refl _) hown2 hgrow3))
     | (go_at_call 216; refine (uh hL _ (uh HC3) (uh A).2.1).mono ?_; rintro e w4 ⟨rfl, a1, a2, a3⟩))
    have hown4 := own_gr hown3 a3 hbw
    rw [<- z39 acc (c - 97, sg)] at hown4
    go_roundg f
    case measure => omega
    case rel => exact ⟨q + 2, acc ++ [(c - 97, sg)], rfl, rfl, by simp; omega, (uh A).2.1, by omega, by simpa using hown4, uh HZ2, a1, a2, z0x (uh HG3) a3⟩
def CRt (w : World) (r : Rt) (cs : List Value) : Prop := ∃ vp vf, cs = [.int .i64 r.foot, vp, vf] /\ Items w vp r.path /\ Items w vf r.flank
theorem CRt.keep {w w' : World} {r : Rt} {cs : List Value} (h : CRt w r cs) (k : Keeps 196 w w') : CRt w' r cs := by
 obtain ⟨vp, vf, e, a, b⟩ := h
 exact ⟨vp, vf, e, a.keep k, b.keep k⟩
theorem tri0 {w : World} {g : Nat} {c0 c1 c2 : Value} {e : TypeId} (h : w.heap[g]? = some (.cells #[c0, c1, c2] e (0, 0))) :
  (w.cell? ⟨g, 0, none⟩ = some c0 /\ w.cell? ⟨g, 1, none⟩ = some c1 /\ w.cell? ⟨g, 2, none⟩ = some c2) /\ (w.frozen? ⟨g, 0, none⟩ = false /\ w.frozen? ⟨g, 1, none⟩ = false /\ w.frozen? ⟨g, 2, none⟩ = false) /\ g < w.heap.size :=
 ⟨⟨z0c h 0, z0c h 1, z0c h 2⟩, ⟨z0q h 0, z0q h 1, z0q h 2⟩, z0f h⟩
theorem z1n {w w1 : World} {r : Option Nat} (h : w.grownBy w1 r) (g j : Nat) (u : Value) (hg : w.heap.size <= g) : w.grownBy (w1.setCell ⟨g, j, none⟩ u) r :=
 ⟨h.os, h.tape, h.output, by simpa [World.setCell] using h.size, fun k hk hn => by rw [Below.heap_setCell _ _ _ _ (by show k ≠ g; omega)]; exact h.block k hk hn⟩
theorem z3j {w w1 : World} {r : Option Nat} (h : w.grownBy w1 r) (o : Obj) : w.grownBy (w1.alloc o) r :=
 ⟨h.os, h.tape, h.output, Nat.le_trans h.size (by simp), fun k hk hn => by rw [Below.heap_alloc _ _ _ (Nat.lt_of_lt_of_le hk h.size)]; exact h.block k hk hn⟩
theorem Cur.alloc {w : World} {b : Nat} {s : ByteArray} {p : Nat} (h : Cur w b s p) (o : Obj) : Cur (w.alloc o) b s p := by
 have := h.cells.2.2.2.2
 unfold Cur at h ⊢
 rw [Below.heap_alloc _ _ _ this]; exact h
theorem Cur.setCell {w : World} {b : Nat} {s : ByteArray} {p : Nat} (h : Cur w b s p) (g j : Nat) (u : Value) (hg : b ≠ g) : Cur (w.setCell ⟨g, j, none⟩ u) b s p := by
 unfold Cur at h ⊢
 rw [Below.heap_setCell _ _ _ _ hg]; exact h
theorem z18 {w w' : World} {b g : Nat} {o : Obj} (h : w.heap[g]? = some o) (hg : w.grownBy w' (some b)) (hne : g ≠ b) : w'.heap[g]? = some o := by
 rw [hg.block g (z0f h) (by simpa using hne)]; exact h
theorem z2q {w w' : World} {b : Nat} {e e' : TypeId} (hT : Typed w b e') (hg : w.grownBy w' (some b)) (hne : e' ≠ e) : Keeps e w w' := by
 intro g cur fr h
 refine hg.block g (z0f h) ?_
 intro heq
 simp only [Option.some.injEq] at heq
 subst heq
 obtain ⟨cur', fr', h'⟩ := hT
 rw [h] at h'
 simp at h'
 exact hne h'.2.1.symm
theorem Cur.typed {w : World} {b : Nat} {s : ByteArray} {p : Nat} (h : Cur w b s p) : Typed w b 211 := ⟨_, _, h⟩
theorem store3 {W : World} {b : Nat} {t : TypeId} (hT : Typed W b t) (u0 u1 u2 : Value) :
  (∀ e, t ≠ e -> Keeps e W (((W.setCell ⟨b, 0, none⟩ u0).setCell ⟨b, 1, none⟩ u1).setCell ⟨b, 2, none⟩ u2)) := by
 have h1 := hT.setCell ⟨b, 0, none⟩ u0
 have h2 := h1.setCell ⟨b, 1, none⟩ u1
 exact fun e he => ((Keeps.setCell ⟨b, 0, none⟩ u0 hT he).trans (Keeps.setCell ⟨b, 1, none⟩ u1 h1 he)).trans (Keeps.setCell ⟨b, 2, none⟩ u2 h2 he)
def z1c (s : ByteArray) (p : Nat) : Bool × Nat × Rt :=
 if inB 97 112 (pk s p) = false then (false, p, Rt0)
 else if (pk s (p + 1) == 62) = false then (false, p + 1, Rt0)
 else if (pathL s 300 (p + 2)).1.length = 0 then (false, (pathL s 300 (p + 2)).2, Rt0)
 else if (pk s (pathL s 300 (p + 2)).2 == 33) = false then (true, (pathL s 300 (p + 2)).2, ⟨pk s p - 97, (pathL s 300 (p + 2)).1, []⟩)
 else ((z0y s 300 ((pathL s 300 (p + 2)).2 + 1)).2.2 && decide (0 < (z0y s 300 ((pathL s 300 (p + 2)).2 + 1)).1.length), (z0y s 300 ((pathL s 300 (p + 2)).2 + 1)).2.1,
  ⟨pk s p - 97, (pathL s 300 (p + 2)).1, (z0y s 300 ((pathL s 300 (p + 2)).2 + 1)).1⟩)
set_option maxHeartbeats 1000000 in
theorem route_clo (b : Nat) (s : ByteArray) (p : Nat) (w : World) (h : Cur w b s p) (hs : s.size <= 256) (hp : p <= s.size) :
  Calls Tryz.prog 206 #[.pointer (some ⟨b, 0, none⟩)] w fun e w' => ∃ (t : Int) (a1 a2 : Option Addr) (n1 n2 c1 c2 : Nat), e = .returned (.tuple #[.agg #[.int .i64 t, .slice a1 n1 c1, .slice a2 n2 c2], .bool (z1c s p).1]) ∧
   ((z1c s p).1 = true -> CRt w' (z1c s p).2.2 [.int .i64 t, .slice a1 n1 c1, .slice a2 n2 c2]) /\ Cur w' b s (z1c s p).2.1 /\ (z1c s p).2.1 <= s.size /\ w.grownBy w' (some b) /\ LoC w.heap.size [.int .i64 t, .slice a1 n1 c1, .slice a2 n2 c2] := by
 have hbw := h.cells.2.2.2.2
 obtain ⟨Z, hZ⟩ : ∃ Z, Z = z1c s p := ⟨_, rfl⟩
 rw [<- hZ]
 unfold z1c at hZ
 have H1 := zh (fun w (h : Cur w b s p) => z1g b s p w h hs hp)
 have h2 := (h.alloc (.cells #[.int .i64 0, .slice none 0 0, .slice none 0 0] 124)).alloc (.cells #[.int .i64 0, .slice none 0 0, .slice none 0 0] 124)
 have g2 := z3j (z3j (gr_refl w (some b)) (.cells #[.int .i64 0, .slice none 0 0, .slice none 0 0] 124)) (.cells #[.int .i64 0, .slice none 0 0, .slice none 0 0] 124)
 have B1 := blk1 w (.cells #[.int .i64 0, .slice none 0 0, .slice none 0 0] 124) (.cells #[.int .i64 0, .slice none 0 0, .slice none 0 0] 124)
 have B2 := blk2 w (.cells #[.int .i64 0, .slice none 0 0, .slice none 0 0] 124) (.cells #[.int .i64 0, .slice none 0 0, .slice none 0 0] 124)
 have G := zh (And.intro h2 (And.intro g2 (And.intro B1 B2)))
 have hne1 : w.heap.size ≠ b := by omega
 have hne2 : w.heap.size + 1 ≠ b := by omega
 have HZ := zh hZ
 clear h2 g2 B1 B2 hZ
 go_enter Tryz.func206, Tryz.ntmps206
 go_wp2_with fail
 refine (uh H1 _ (uh G).1).mono ?_
 rintro e w1 ⟨rfl, a1, a2, a3⟩
 have D := zh (And.intro (z18 (uh G).2.2.1 a3 hne1) (And.intro (z18 (uh G).2.2.2 a3 hne2) (z0x (uh G).2.1 a3)))
 have A := zh (And.intro a1 a2)
 clear G a1 a2 a3
 cases hin : inB 97 112 (pk s p) with
 | false =>
  rw [hin, if_pos rfl] at HZ
  rw [hin] at A
  clear hin
  obtain ⟨⟨r0, r1, r2⟩, ⟨f0, f1, f2⟩, q1⟩ := tri0 (uh D).1
  obtain ⟨⟨l0, l1, l2⟩, ⟨k0, k1, k2⟩, q2⟩ := tri0 (uh D).2.1
  go_wp2
  refine bodyPost_ret (v := .tuple #[.agg #[.int .i64 0, .slice none 0 0, .slice none 0 0], .bool false]) (by simp [results, Tryz.results206, go_sem, r0, r1, r2]) rfl ?_
  refine ⟨_, _, _, _, _, _, _, by rw [uh HZ] <;> rfl, fun h => absurd h (by rw [uh HZ]; simp), ?_, ?_, z1n (z1n (z1n (uh D).2.2 _ _ _ (Nat.le_refl _)) _ _ _ (Nat.le_refl _)) _ _ _ (Nat.le_refl _), lo3 (Lo.nil _ _ _) (Lo.nil _ _ _)⟩
  ·rw [uh HZ]; exact ((((uh A).1).setCell _ _ _ (Ne.symm hne1)).setCell _ _ _ (Ne.symm hne1)).setCell _ _ _ (Ne.symm hne1)
  ·rw [uh HZ]; exact (uh A).2
 | true =>
  rw [hin, if_neg (by simp)] at HZ
  rw [hin] at A
  have hoff : offB 97 112 (pk s p) = pk s p - 97 := by unfold offB; rw [hin]; rfl
  rw [hoff]
  clear hin hoff
  have hp1 : p + 1 <= s.size := (uh A).2
  have H2 := zh (z2p b s (p + 1) 62 w1 (uh A).1 hs hp1 (by omega))
  have hc256 := pk_lt s p
  generalize pk s p = c at *
  cases h62 : (pk s (p + 1) == 62) with
  | false =>
   rw [h62, if_pos rfl] at HZ
   rw [h62] at H2
   clear h62
   go_wp2_with fail
   refine (uh H2).mono ?_
   rintro e w2 ⟨rfl, a1, a2, a3⟩
   have D2 := zh (And.intro (z18 (uh D).1 a3 hne1) (And.intro (z18 (uh D).2.1 a3 hne2) (z0x (uh D).2.2 a3)))
   have A2 := zh (And.intro a1 a2)
   clear D a1 a2 a3
   obtain ⟨⟨r0, r1, r2⟩, ⟨f0, f1, f2⟩, q1⟩ := tri0 (uh D2).1
   obtain ⟨⟨l0, l1, l2⟩, ⟨k0, k1, k2⟩, q2⟩ := tri0 (uh D2).2.1
   go_wp2
   refine bodyPost_ret (v := .tuple #[.agg #[.int .i64 0, .slice none 0 0, .slice none 0 0], .bool false]) (by simp [results, Tryz.results206, go_sem, r0, r1, r2]) rfl ?_
   refine ⟨_, _, _, _, _, _, _, by rw [uh HZ] <;> rfl, fun h => absurd h (by rw [uh HZ]; simp), ?_, ?_, z1n (z1n (z1n (uh D2).2.2 _ _ _ (Nat.le_refl _)) _ _ _ (Nat.le_refl _)) _ _ _ (Nat.le_refl _), lo3 (Lo.nil _ _ _) (Lo.nil _ _ _)⟩
   ·rw [uh HZ]; exact ((((uh A2).1).setCell _ _ _ (Ne.symm hne1)).setCell _ _ _ (Ne.symm hne1)).setCell _ _ _ (Ne.symm hne1)
   ·rw [uh HZ]; exact (uh A2).2
  | true =>
   rw [h62, if_neg (by simp)] at HZ
   rw [h62] at H2
   clear h62
   go_wp2_with fail
   refine (uh H2).mono ?_
   rintro e w2 ⟨rfl, a1, a2, a3⟩
   have hL2 := z08 (j := 0) (.int .i64 ((c - 97 : Nat) : Int)) (z18 (uh D).2.1 a3 hne2)
   have hR2 : (w2.setCell ⟨w.heap.size + 1, 0, none⟩ (.int .i64 ((c - 97 : Nat) : Int))).heap[w.heap.size]? = _ := (Below.heap_setCell w2 ⟨w.heap.size + 1, 0, none⟩ (.int .i64 ((c - 97 : Nat) : Int)) w.heap.size (by simp)).trans (z18 (uh D).1 a3 hne1)
   have hG2 := z1n (z0x (uh D).2.2 a3) (w.heap.size + 1) 0 (.int .i64 ((c - 97 : Nat) : Int)) (by omega)
   have hC2 := a1.setCell (w.heap.size + 1) 0 (.int .i64 ((c - 97 : Nat) : Int)) (Ne.symm hne2)
   have hp2 : p + 2 <= s.size := a2
   obtain ⟨⟨r0, r1, r2⟩, ⟨f0, f1, f2⟩, q1⟩ := tri0 (z18 (uh D).1 a3 hne1)
   obtain ⟨⟨l0, l1, l2⟩, ⟨k0, k1, k2⟩, q2⟩ := tri0 (z18 (uh D).2.1 a3 hne2)
   have H3 := zh (path_lo b s (p + 2) _ hC2 hs hp2)
   have D2 := zh (And.intro hR2 (And.intro hL2 hG2))
   clear D A H2 a1 a2 a3 hL2 hR2 hG2 hC2
   generalize pathL s 300 (p + 2) = PL at *
   go_wp2_with fail
   refine (uh H3).mono ?_
   rintro e w3 ⟨vp, rfl, a0, a1, a2, a3, alo⟩
   have HLP := zh (alo.mono (m := w.heap.size) (uh D2).2.2.size)
   clear alo
   have D3 := zh (And.intro (z18 (uh D2).1 a3 hne1) (And.intro (z18 (uh D2).2.1 a3 hne2) (And.intro (z0x (uh D2).2.2 a3) (And.intro a0 (And.intro a1 a2)))))
   obtain ⟨ap, cp, hvp, -, -, -⟩ := SlAt.open a0
   subst hvp
   clear D2 H3 r0 r1 r2 f0 f1 f2 q1 l0 l1 l2 k0 k1 k2 q2 a0 a1 a2 a3
   obtain ⟨⟨r0, r1, r2⟩, ⟨f0, f1, f2⟩, q1⟩ := tri0 (uh D3).1
   have hLL : w3.heap[w.heap.size + 1]? = some (.cells #[.int .i64 ((c - 97 : Nat) : Int), .slice none 0 0, .slice none 0 0] 124 (0, 0)) := (uh D3).2.1
   obtain ⟨⟨l0, l1, l2⟩, ⟨k0, k1, k2⟩, q2⟩ := tri0 hLL
   have HLL := zh hLL
   clear hLL
   by_cases hpe : PL.1.length = 0
   ·rw [if_pos hpe] at HZ
    have d : decide (0 < PL.1.length) = false := decide_eq_false (by omega)
    rw [d]
    clear d
    go_wp2
    refine bodyPost_ret (v := .tuple #[.agg #[.int .i64 ((c - 97 : Nat) : Int), .slice none 0 0, .slice none 0 0], .bool false]) (by simp [results, Tryz.results206, go_sem, r0, r1, r2]) rfl ?_
    refine ⟨_, _, _, _, _, _, _, by rw [uh HZ] <;> rfl, fun h => absurd h (by rw [uh HZ]; simp), ?_, ?_, z1n (z1n (z1n (uh D3).2.2.1 _ _ _ (Nat.le_refl _)) _ _ _ (Nat.le_refl _)) _ _ _ (Nat.le_refl _), lo3 (Lo.nil _ _ _) (Lo.nil _ _ _)⟩
    ·rw [uh HZ]; exact ((((uh D3).2.2.2.2.1).setCell _ _ _ (Ne.symm hne1)).setCell _ _ _ (Ne.symm hne1)).setCell _ _ _ (Ne.symm hne1)
    ·rw [uh HZ]; exact (uh D3).2.2.2.2.2
   ·rw [if_neg hpe] at HZ
    have d : decide (0 < PL.1.length) = true := decide_eq_true (by omega)
    rw [d]
    clear d
    have hL4 := z08 (j := 1) (.slice ap PL.1.length cp) (uh HLL)
    have hR4 : (w3.setCell ⟨w.heap.size + 1, 1, none⟩ (.slice ap PL.1.length cp)).heap[w.heap.size]? = _ := (Below.heap_setCell w3 ⟨w.heap.size + 1, 1, none⟩ (.slice ap PL.1.length cp) w.heap.size (by simp)).trans (uh D3).1
    have hG4 := z1n (uh D3).2.2.1 (w.heap.size + 1) 1 (.slice ap PL.1.length cp) (by omega)
    have hC4 := (uh D3).2.2.2.2.1.setCell (w.heap.size + 1) 1 (.slice ap PL.1.length cp) (Ne.symm hne2)
    have hI4 := (uh D3).2.2.2.1.keep (Keeps.setCell ⟨w.heap.size + 1, 1, none⟩ (.slice ap PL.1.length cp) ⟨_, _, uh HLL⟩ (by decide))
    have hq2 := (uh D3).2.2.2.2.2
    have H5 := zh (z2p b s PL.2 33 _ hC4 hs hq2 (by omega))
    have D4 := zh (And.intro hR4 (And.intro hL4 (And.intro hG4 (And.intro hI4 hC4.typed))))
    have l0' := zh l0
    clear D3 hR4 hL4 hG4 hC4 hI4
    go_wp2_with fail
    refine (uh H5).mono ?_
    rintro e w5 ⟨rfl, a1, a2, a3⟩
    have hLL : w5.heap[w.heap.size + 1]? = some (.cells #[.int .i64 ((c - 97 : Nat) : Int), .slice ap PL.1.length cp, .slice none 0 0] 124 (0, 0)) := z18 (uh D4).2.1 a3 hne2
    have hI5 : Items w5 (.slice ap PL.1.length cp) PL.1 := (uh D4).2.2.2.1.keep (z2q (uh D4).2.2.2.2 a3 (by decide))
    have hR5 := z18 (uh D4).1 a3 hne1
    have D5 := zh (And.intro hR5 (And.intro hLL (And.intro (z0x (uh D4).2.2.1 a3) (And.intro hI5 (And.intro a1 a2)))))
    clear D4 H5 r0 r1 r2 f0 f1 f2 q1 l0 l1 l2 k0 k1 k2 q2 a1 a2 a3 hLL hI5 hR5 HLL l0'
    obtain ⟨⟨r0, r1, r2⟩, ⟨f0, f1, f2⟩, q1⟩ := tri0 (uh D5).1
    obtain ⟨⟨l0, l1, l2⟩, ⟨k0, k1, k2⟩, q2⟩ := tri0 (uh D5).2.1
    cases h33 : (pk s PL.2 == 33) with
    | false =>
     rw [h33, if_pos rfl] at HZ
     rw [h33] at D5
     clear h33
     have kS := zh (store3 (⟨_, _, (uh D5).1⟩ : Typed w5 w.heap.size 124) (.int .i64 ((c - 97 : Nat) : Int)) (.slice ap PL.1.length cp) (.slice none 0 0) 196 (by decide))
     go_wp2
     refine bodyPost_ret (v := .tuple #[.agg #[.int .i64 ((c - 97 : Nat) : Int), .slice ap PL.1.length cp, .slice none 0 0], .bool true]) (by simp [results, Tryz.results206, go_sem, r0, r1, r2]) rfl ?_
     refine ⟨_, _, _, _, _, _, _, by rw [uh HZ] <;> rfl, fun _ => by rw [uh HZ]; exact ⟨_, _, rfl, (uh D5).2.2.2.1.keep (uh kS), SlAt.nil _ _ _ _⟩, ?_, ?_, z1n (z1n (z1n (uh D5).2.2.1 _ _ _ (Nat.le_refl _)) _ _ _ (Nat.le_refl _)) _ _ _ (Nat.le_refl _), lo3 (uh HLP) (Lo.nil _ _ _)⟩
     ·rw [uh HZ]; exact ((((uh D5).2.2.2.2.1).setCell _ _ _ (Ne.symm hne1)).setCell _ _ _ (Ne.symm hne1)).setCell _ _ _ (Ne.symm hne1)
     ·rw [uh HZ]; exact (uh D5).2.2.2.2.2
    | true =>
     rw [h33, if_neg (by simp)] at HZ
     rw [h33] at D5
     clear h33
     have hq3 : PL.2 + 1 <= s.size := (uh D5).2.2.2.2.2
     have H6 := zh (flank_lo b s (PL.2 + 1) w5 (uh D5).2.2.2.2.1 hs hq3)
     generalize z0y s 300 (PL.2 + 1) = FL at *
     go_wp2_with fail
     refine (uh H6).mono ?_
     rintro e w6 ⟨af, nf, cf, rfl, a0, a1, a2, a3, alo⟩
     have HLF := zh (alo.mono (m := w.heap.size) (uh D5).2.2.1.size)
     clear alo
     have hI6 : Items w6 (.slice ap PL.1.length cp) PL.1 := (uh D5).2.2.2.1.keep (z2q (uh D5).2.2.2.2.1.typed a3 (by decide))
     have D6 := zh (And.intro (z18 (uh D5).1 a3 hne1) (And.intro (z18 (uh D5).2.1 a3 hne2) (And.intro (z0x (uh D5).2.2.1 a3) (And.intro hI6 (And.intro a1 (And.intro a2 a0))))))
     clear D5 H6 r0 r1 r2 f0 f1 f2 q1 l0 l1 l2 k0 k1 k2 q2 a0 a1 a2 a3 hI6
     obtain ⟨⟨r0, r1, r2⟩, ⟨f0, f1, f2⟩, q1⟩ := tri0 (uh D6).1
     obtain ⟨⟨l0, l1, l2⟩, ⟨k0, k1, k2⟩, q2⟩ := tri0 (uh D6).2.1
     have hT7 := Typed.setCell (w := w6) (b := w.heap.size) (e := 124) ⟨_, _, (uh D6).1⟩ ⟨w.heap.size + 1, 2, none⟩ (.slice af nf cf)
     have kS := zh ((Keeps.setCell ⟨w.heap.size + 1, 2, none⟩ (.slice af nf cf) ⟨_, _, (uh D6).2.1⟩ (by decide : 124 ≠ 196)).trans (store3 hT7 (.int .i64 ((c - 97 : Nat) : Int)) (.slice ap PL.1.length cp) (.slice af nf cf) 196 (by decide)))
     have hgg := zh (z1n (uh D6).2.2.1 (w.heap.size + 1) 2 (.slice af nf cf) (by omega))
     have hcc := zh ((uh D6).2.2.2.2.1.setCell (w.heap.size + 1) 2 (.slice af nf cf) (Ne.symm hne2))
     clear hT7
     generalize hok : (FL.2.2 && decide (0 < FL.1.length)) = ok at *
     have HOK := zh hok
     clear hok
     go_wp2
     refine bodyPost_ret (v := .tuple #[.agg #[.int .i64 ((c - 97 : Nat) : Int), .slice ap PL.1.length cp, .slice af nf cf], .bool ok]) (by simp [results, Tryz.results206, go_sem, r0, r1, r2]) rfl ?_
     refine ⟨_, _, _, _, _, _, _, by rw [uh HZ] <;> rfl, fun h => by rw [uh HZ] at h ⊢; exact ⟨_, _, rfl, (uh D6).2.2.2.1.keep (uh kS), ((uh D6).2.2.2.2.2.2 (by have h2 := (uh HOK).trans h; simp at h2; exact h2.1)).keep (uh kS)⟩, ?_, ?_, z1n (z1n (z1n (uh hgg) _ _ _ (Nat.le_refl _)) _ _ _ (Nat.le_refl _)) _ _ _ (Nat.le_refl _), lo3 (uh HLP) (uh HLF)⟩
     ·rw [uh HZ]; exact (((uh hcc).setCell _ _ _ (Ne.symm hne1)).setCell _ _ _ (Ne.symm hne1)).setCell _ _ _ (Ne.symm hne1)
     ·rw [uh HZ]; exact (uh D6).2.2.2.2.2.1
def CTn (w : World) (t : Tn) (cs : List Value) : Prop := ∃ vj, cs = [.int .i64 t.start, vj] /\ Ints w vj t.jny
theorem CTn.keep {w w' : World} {t : Tn} {cs : List Value} (h : CTn w t cs) (k : Keeps 3 w w') : CTn w' t cs := by
 obtain ⟨vj, e, a⟩ := h
 exact ⟨vj, e, a.keep k⟩
def z1i (s : ByteArray) (p : Nat) : Bool × Nat × Tn :=
 if inB 97 112 (pk s p) = false then (false, p, Tn0)
 else (decide (0 < (capsL s 300 (p + 1)).1.length), (capsL s 300 (p + 1)).2, ⟨pk s p - 97, (capsL s 300 (p + 1)).1⟩)
theorem store2 {W : World} {b : Nat} {t : TypeId} (hT : Typed W b t) (u0 u1 : Value) : (∀ e, t ≠ e -> Keeps e W ((W.setCell ⟨b, 0, none⟩ u0).setCell ⟨b, 1, none⟩ u1)) := by
 have h1 := hT.setCell ⟨b, 0, none⟩ u0
 exact fun e he => (Keeps.setCell ⟨b, 0, none⟩ u0 hT he).trans (Keeps.setCell ⟨b, 1, none⟩ u1 h1 he)
theorem gr_drew {w w1 : World} {r : Option Nat} (h : w.grownBy w1 r) : w.grownBy w1.drew r := ⟨h.os, h.tape, h.output, h.size, h.block⟩
theorem z2i {w : World} {B : Nat} {e e' : TypeId} {size n : Nat} {v : Value} {xs : List Value} (h : w.ownsRow B e size v n xs) (g j : Nat) (u : Value) (hT : Typed w g e') (hne : e' ≠ e) : (w.setCell ⟨g, j, none⟩ u).ownsRow B e size v n xs :=
 z01 h (Keeps.setCell ⟨g, j, none⟩ u hT hne)
set_option maxHeartbeats 1000000 in
theorem train_clo (b : Nat) (s : ByteArray) (p : Nat) (w : World) (h : Cur w b s p) (hs : s.size <= 256) (hp : p <= s.size) :
  Calls Tryz.prog 207 #[.pointer (some ⟨b, 0, none⟩)] w fun e w' => ∃ (t : Int) (a1 : Option Addr) (n1 c1 : Nat), e = .returned (.tuple #[.agg #[.int .i64 t, .slice a1 n1 c1], .bool (z1i s p).1]) ∧
   ((z1i s p).1 = true -> CTn w' (z1i s p).2.2 [.int .i64 t, .slice a1 n1 c1]) /\ Cur w' b s (z1i s p).2.1 /\ (z1i s p).2.1 <= s.size /\ w.grownBy w' (some b) /\ LoC w.heap.size [.int .i64 t, .slice a1 n1 c1] := by
 have hbw := h.cells.2.2.2.2
 obtain ⟨i0, hi0⟩ := info_parts Tryz.infoInt
 have HI := zh hi0
 clear hi0
 obtain ⟨Z, hZ⟩ : ∃ Z, Z = z1i s p := ⟨_, rfl⟩
 rw [<- hZ]
 unfold z1i at hZ
 have H1 := zh (fun w (h : Cur w b s p) => z1g b s p w h hs hp)
 have h2 := (h.alloc (.cells #[.int .i64 0, .slice none 0 0] 218)).alloc (.cells #[.int .i64 0, .slice none 0 0] 218)
 have g2 := z3j (z3j (gr_refl w (some b)) (.cells #[.int .i64 0, .slice none 0 0] 218)) (.cells #[.int .i64 0, .slice none 0 0] 218)
 have B1 := blk1 w (.cells #[.int .i64 0, .slice none 0 0] 218) (.cells #[.int .i64 0, .slice none 0 0] 218)
 have B2 := blk2 w (.cells #[.int .i64 0, .slice none 0 0] 218) (.cells #[.int .i64 0, .slice none 0 0] 218)
 have G := zh (And.intro h2 (And.intro g2 (And.intro B1 B2)))
 have hne1 : w.heap.size ≠ b := by omega
 have hne2 : w.heap.size + 1 ≠ b := by omega
 have HZ := zh hZ
 clear h2 g2 B1 B2 hZ
 go_enter Tryz.func207, Tryz.ntmps207
 go_wp2_with fail
 refine (uh H1 _ (uh G).1).mono ?_
 rintro e w1 ⟨rfl, a1, a2, a3⟩
 have D := zh (And.intro (z18 (uh G).2.2.1 a3 hne1) (And.intro (z18 (uh G).2.2.2 a3 hne2) (z0x (uh G).2.1 a3)))
 have A := zh (And.intro a1 a2)
 clear G a1 a2 a3
 obtain ⟨⟨r0, r1⟩, ⟨f0, f1⟩, q1⟩ := duo0 (uh D).1
 obtain ⟨⟨l0, l1⟩, ⟨k0, k1⟩, q2⟩ := duo0 (uh D).2.1
 cases hin : inB 97 112 (pk s p) with
 | false =>
  rw [hin, if_pos rfl] at HZ
  rw [hin] at A
  clear hin
  go_wp2
  refine bodyPost_ret (v := .tuple #[.agg #[.int .i64 0, .slice none 0 0], .bool false]) (by simp [results, Tryz.results207, go_sem, r0, r1]) rfl ?_
  refine ⟨_, _, _, _, by rw [uh HZ] <;> rfl, fun h => absurd h (by rw [uh HZ]; simp), ?_, ?_, z1n (z1n (uh D).2.2 _ _ _ (Nat.le_refl _)) _ _ _ (Nat.le_refl _), lo2 (Lo.nil _ _ _)⟩
  ·rw [uh HZ]; exact ((uh A).1.setCell _ _ _ (Ne.symm hne1)).setCell _ _ _ (Ne.symm hne1)
  ·rw [uh HZ]; exact (uh A).2
 | true =>
  rw [hin, if_neg (by simp)] at HZ
  rw [hin] at A
  have hoff : offB 97 112 (pk s p) = pk s p - 97 := by unfold offB; rw [hin]; rfl
  rw [hoff]
  clear hin hoff
  have hp1 : p + 1 <= s.size := (uh A).2
  have hc256 := pk_lt s p
  generalize pk s p = c at *
  have hL2 := z08 (j := 0) (.int .i64 ((c - 97 : Nat) : Int)) (uh D).2.1
  have hR2 : (w1.setCell ⟨w.heap.size + 1, 0, none⟩ (.int .i64 ((c - 97 : Nat) : Int))).heap[w.heap.size]? = _ := (Below.heap_setCell w1 ⟨w.heap.size + 1, 0, none⟩ (.int .i64 ((c - 97 : Nat) : Int)) w.heap.size (by simp)).trans (uh D).1
  have hG2 := z1n (uh D).2.2 (w.heap.size + 1) 0 (.int .i64 ((c - 97 : Nat) : Int)) (by omega)
  have hC2 := (uh A).1.setCell (w.heap.size + 1) 0 (.int .i64 ((c - 97 : Nat) : Int)) (Ne.symm hne2)
  have H3 := zh (z3g b s (p + 1) _ hC2 hs hp1)
  have D2 := zh (And.intro hR2 (And.intro hL2 hG2))
  clear D A hL2 hR2 hG2 hC2
  go_wp2_with fail
  refine (uh H3).mono ?_
  rintro e w3 ⟨rfl, a1, a2, a3⟩
  have hL3 : w3.heap[w.heap.size + 1]? = some (.cells #[.int .i64 ((c - 97 : Nat) : Int), .slice none 0 0] 218 (0, 0)) := z18 (uh D2).2.1 a3 hne2
  have A := zh (And.intro (z18 (uh D2).1 a3 hne1) (And.intro hL3 (And.intro (z0x (uh D2).2.2 a3) (And.intro a1 a2))))
  obtain ⟨CL, hCL⟩ : ∃ CL, CL = capsL s 300 (p + 1) := ⟨_, rfl⟩
  rw [<- hCL] at HZ
  have HCL := zh hCL
  clear D2 H3 r0 r1 f0 f1 q1 l0 l1 k0 k1 q2 a1 a2 a3 hL3 hCL
  go_wp2
  go_loopg [7, 6] 300 (fun f n t wr => ∃ q : Nat, ∃ acc vj, n = .int .i64 (offB 65 76 (pk s q) : Nat) /\ t = .bool (inB 65 76 (pk s q)) /\ acc.length <= q /\ q <= s.size /\ s.size < q + f ∧
    wr.ownsRow (w.heap.size + 2) 3 1 vj acc.length (intsV acc) /\ CL = (acc ++ (capsL s f q).1, (capsL s f q).2) /\ wr.heap[w.heap.size]? = some (.cells #[.int .i64 0, .slice none 0 0] 218 (0, 0)) ∧
    wr.heap[w.heap.size + 1]? = some (.cells #[.int .i64 ((c - 97 : Nat) : Int), vj] 218 (0, 0)) /\ Cur wr b s (adv (inB 65 76 (pk s q)) q) /\ adv (inB 65 76 (pk s q)) q <= s.size /\ w.grownBy wr (some b))
  case atStart => exact ⟨p + 1, [], _, rfl, rfl, Nat.zero_le _, hp1, by omega, World.ownsRow_nil _ _ _ _, uh HCL, (uh A).1, (uh A).2.1, (uh A).2.2.2.1, (uh A).2.2.2.2, (uh A).2.2.1⟩
  case round =>
   clear A
   obtain ⟨q, acc, vj, rfl, rfl, hac, hq, hf, hown, hCL2, hRB, hLB, hC, hle, hg⟩ := hrel
   obtain ⟨f, hfe⟩ : ∃ f, gk = f + 1 := ⟨gk - 1, by omega⟩
   subst hfe
   obtain ⟨⟨r0, r1⟩, ⟨f0, f1⟩, q1⟩ := duo0 hRB
   obtain ⟨⟨l0, l1⟩, ⟨k0, k1⟩, q2⟩ := duo0 hLB
   obtain ⟨aj, cj, hvj⟩ := z03 hown
   subst hvj
   cases hin : inB 65 76 (pk s q) with
   | false =>
    rw [hin] at hC hle
    have hCL3 : CL = (acc, q) := by rw [hCL2]; simp [capsL, hin]
    rw [hCL3] at HZ
    have F := zh (And.intro (Ints.ofOwn hown rfl) (And.intro hC (And.intro hle hg)))
    have FLO := zh ((Lo.of hown).mono (m := w.heap.size) (by omega))
    have kS := zh (store2 (⟨_, _, hRB⟩ : Typed wr w.heap.size 218) (.int .i64 ((c - 97 : Nat) : Int)) (.slice aj acc.length cj) 3 (by decide))
    clear hown hCL2 hCL3 hC hle hg hRB hLB hin HCL
    go_wp2
    go_region
    go_wp2
    refine bodyPost_ret (v := .tuple #[.agg #[.int .i64 ((c - 97 : Nat) : Int), .slice aj acc.length cj], .bool (decide (0 < acc.length))]) (by simp [results, Tryz.results207, go_sem, r0, r1]) rfl ?_
    refine ⟨_, _, _, _, by rw [uh HZ] <;> rfl, fun _ => by rw [uh HZ]; exact ⟨_, rfl, ((uh F).1.keep (uh kS)).keep (Keeps.drew _ _)⟩, ?_, ?_, gr_drew (z1n (z1n (uh F).2.2.2 _ _ _ (Nat.le_refl _)) _ _ _ (Nat.le_refl _)), lo2 (uh FLO)⟩
    ·rw [uh HZ]; exact ((uh F).2.1.setCell _ _ _ (Ne.symm hne1)).setCell _ _ _ (Ne.symm hne1)
    ·rw [uh HZ]; exact (uh F).2.2.1
   | true =>
    rw [hin] at hC hle
    have hoff : offB 65 76 (pk s q) = pk s q - 65 := by unfold offB; rw [hin]; rfl
    rw [hoff]
    have hq1 : q + 1 <= s.size := hle
    have HC2 := zh (show CL = ((acc ++ [pk s q - 65]) ++ (capsL s f (q + 1)).1, (capsL s f (q + 1)).2) by rw [hCL2]; simp [capsL, hin])
    have hd256 := pk_lt s q
    generalize pk s q = d at *
    have hsz : w.heap.size <= wr.heap.size := hg.size
    have F := zh (And.intro hRB (And.intro hLB (And.intro hC hg)))
    have hL := zh (fun w' (h : Cur w' b s (q + 1)) => z3g b s (q + 1) w' h hs hq1)
    clear hCL2 hin hoff hC hRB hLB HCL hg
    go_wp2_with (first
     | (at_builtin; refine wpList_append_own _ rfl _ _ 50 rfl (w.heap.size + 2) 3 i0 (.int .i64 0) 1 8 Tryz.underlying50 (uh HI).1 (uh HI).2.1 (uh HI).2.2.1 (uh HI).2.2.2 rfl (by decide) _ _ _ rfl (hown.alloc _) ⟨wr.heap.size, 0, none⟩ 1 1 [.int .i64 ((d - 65 : Nat) : Int)] rfl rfl (z0o _ _ _) (z0a rfl) (by unfold maxLen; omega) (by omega) (by simp; omega) ?_; intro v3 w3 hown3 hgrow3 _; have hR3 := (z07 hown hgrow3 (by decide) _ _ _ (uh F).1).trans (uh F).1; have hL3 := (z07 hown hgrow3 (by decide) _ _ _ (uh F).2.1).trans (uh F).2.1; obtain ⟨aj', cj', hv'⟩ := z03 hown3; subst hv'; have HF3 := zh (And.intro hR3 (And.intro hL3 (And.intro ((uh F).2.2.1.own hown hgrow3 (by decide)) (gr_own (uh F).2.2.2 (by omega) hown hgrow3)))); clear l0 l1 k0 k1 q2 r0 r1 f0 f1 q1 hR3; obtain ⟨⟨l0, l1⟩, ⟨k0, k1⟩, q2⟩ := duo0 hL3; clear hL3)
     | (go_at_call 219; refine (uh hL _ ((uh HF3).2.2.1.setCell _ _ _ (Ne.symm hne2))).mono ?_; rintro e w4 ⟨rfl, a1, a2, a3⟩))
    have hL4 : w4.heap[w.heap.size + 1]? = some (.cells #[.int .i64 ((c - 97 : Nat) : Int), .slice aj' (acc.length + 1) cj'] 218 (0, 0)) := z18 (z08 (j := 1) _ (uh HF3).2.1) a3 hne2
    have hR4 := z18 ((Below.heap_setCell w3 ⟨w.heap.size + 1, 1, none⟩ (.slice aj' (acc.length + 1) cj') w.heap.size (by simp)).trans (uh HF3).1) a3 hne1
    have hown4 := own_gr (z2i hown3 (w.heap.size + 1) 1 (.slice aj' (acc.length + 1) cj') ⟨_, _, (uh HF3).2.1⟩ (by decide)) a3 (by omega)
    rw [<- z0p] at hown4
    go_roundg f
    case measure => omega
    case rel => exact ⟨q + 1, acc ++ [d - 65], _, rfl, rfl, by simp; omega, hq1, by omega, by simpa using hown4, uh HC2, hR4, hL4, a1, a2, z0x (z1n (uh HF3).2.2.2 _ _ _ (by omega)) a3⟩
def z31 (l : List UInt8) : Rt :=
 ⟨(l.getD 0 0).toNat - 97, marksF ((z0r 33 [] (l.drop 2)).getD 0 []), marksF (((z0r 33 [] (l.drop 2)).drop 1).getD 0 [])⟩
theorem splitA_ne (c : UInt8) (pre l : List UInt8) : z0r c pre l ≠ [] := by
 induction l generalizing pre with
 | nil => simp [z0r]
 | cons x l ih => unfold z0r; split <;> simp [ih]
theorem z3a (c : UInt8) (pre l : List UInt8) : ∀ p, p ∈ z0r c pre l -> p.length <= pre.length + l.length := by
 induction l generalizing pre with
 | nil => intro p hp; simp [z0r] at hp; subst hp; simp
 | cons x l ih =>
  intro p hp
  unfold z0r at hp
  split at hp
  ·rcases List.mem_cons.1 hp with h | h
   ·subst h; simp
   ·have := ih [] p h; simp at this ⊢; omega
  ·have := ih _ p hp; simp at this ⊢; omega
set_option maxHeartbeats 1000000 in
theorem route_lo (s : ByteArray) (w : World) (h2 : 2 <= s.size) (hs : s.size <= 1000) (h97 : 97 <= (s.data.toList.getD 0 0).toNat) :
  Calls Tryz.prog 167 #[.string s] w fun e w' => ∃ vp vs vf vl, e = .returned (.agg #[.int .i64 (z31 s.data.toList).foot, vp, vs, vf, vl]) /\ CRRt w' (z31 s.data.toList) [.int .i64 (z31 s.data.toList).foot, vp, vs, vf, vl] /\ Below w.heap.size w w' /\ LoC w.heap.size [.int .i64 (z31 s.data.toList).foot, vp, vs, vf, vl] := by
 have HC0 := zh (show s[0] = s.data.toList.getD 0 0 by rw [List.getD_eq_getElem?_getD, List.getElem?_eq_getElem (by simp; omega)]; rfl)
 obtain ⟨c, hce⟩ : ∃ c, s[0].toNat = c := ⟨_, rfl⟩
 have hc256 : c < 256 := by rw [<- hce]; exact s[0].toNat_lt
 rw [<- uh HC0, hce] at h97
 have HFT := zh (show (z31 s.data.toList).foot = c - 97 by rw [z31, <- uh HC0, hce])
 have HE := zh (show (s.extract 2 s.size).data.toList = s.data.toList.drop 2 by
  rw [extract_eq, List.take_of_length_le (by simp)])
 have hes : (s.extract 2 s.size).size <= 1000 := by
  have := congrArg List.length (uh HE)
  simp at this
  show (s.extract 2 s.size).data.size <= 1000
  simp; omega
 obtain ⟨P, hP⟩ : ∃ P, P = z0r 33 [] (s.data.toList.drop 2) := ⟨_, rfl⟩
 have HP := zh hP
 have hPl : ∀ p, p ∈ P -> p.length <= 1000 := by
  intro p hp; rw [hP] at hp
  have := z3a _ _ _ p hp
  simp at this; omega
 have hP0 : 0 < P.length := by rw [hP]; exact List.length_pos_iff.2 (splitA_ne _ _ _)
 have HPP := zh (show (z31 s.data.toList).path = marksF (P[0]'hP0) by
  rw [z31, <- hP]
  show marksF (P.getD 0 []) = _
  rw [List.getD_eq_getElem?_getD, List.getElem?_eq_getElem hP0]; rfl)
 have HFF := zh (show (z31 s.data.toList).flank = marksF ((P.drop 1).getD 0 []) by rw [z31, <- hP])
 clear hP
 generalize z31 s.data.toList = R at *
 go_enter Tryz.func167, Tryz.ntmps167
 go_wp2_with fail
 refine (split_any _ 33 _ hes).mono ?_
 rw [uh HE, <- uh HP]
 rintro e w1 ⟨v1, rfl, hS1, hb1⟩
 obtain ⟨ao, cap, rfl, b1, b2, b3⟩ := SlAt.open hS1
 obtain ⟨g, off, rfl, hg, cs, -, hC, hc⟩ := b3 0 hP0
 unfold CStr at hC
 subst hC
 have hc0 := hc 0 (by omega)
 simp [strV] at hc0
 have HB1 := zh hb1
 have hz1 := hb1.size
 have HS1 := zh hS1
 clear hb1 hc hS1
 unfold maxLen at b2
 have hml : (⟨(P[0]'hP0).toArray⟩ : ByteArray).size <= 1000 := by
  have := hPl _ (List.getElem_mem hP0)
  show (P[0]'hP0).toArray.size <= 1000
  simpa using this
 have HM0 := zh (marks_lo ⟨(P[0]'hP0).toArray⟩ w1 hml)
 simp only at HM0
 rw [<- uh HPP] at HM0
 go_wp2_with fail
 refine (uh HM0).mono ?_
 rintro e w2 ⟨vp, vs, rfl, hI2, hY2, hb2, hlp, hls⟩
 have HLP := zh (And.intro (hlp.mono (m := w.heap.size) (by simp at hz1; omega)) (hls.mono (m := w.heap.size) (by simp at hz1; omega)))
 clear hlp hls
 have HI2 := zh hI2
 have HY2 := zh hY2
 obtain ⟨aop, capp, rfl, -, -, -⟩ := SlAt.open hI2
 obtain ⟨aos, caps, rfl, -, -, -⟩ := SlAt.open hY2
 have hz2 := hb2.size
 have HB2 := zh hb2
 have hft : (c : Int) - 97 = (R.foot : Int) := by rw [uh HFT]; omega
 have HR := zh hft
 have hbR : Below (w.heap.size + 1) (w.alloc (.cells #[.int .i64 0, .slice none 0 0, .slice none 0 0, .slice none 0 0, .slice none 0 0] 188)) w2 :=
  ((uh HB1).mono (by simp)).trans (hb2.mono (by simp at hz1; omega))
 have HBR := zh hbR
 obtain ⟨⟨z0, z1, z2, z3, z4⟩, ⟨x0, x1, x2, x3, x4⟩, qs⟩ := five hbR
 clear hb2 hI2 hY2 hc0 hft hbR hz1
 by_cases hp1 : 1 < P.length
 ·obtain ⟨g', off', hao, hg', cs2, -, hC2, hd⟩ := b3 1 hp1
  simp only [Option.some.injEq, Addr.mk.injEq, and_true] at hao
  obtain ⟨rfl, rfl⟩ := hao
  unfold CStr at hC2
  subst hC2
  have hd0 := hd 0 (by omega)
  rw [<- (uh HB2).cell (p := ⟨g, _, none⟩) hg] at hd0
  simp [strV] at hd0
  have hgw2 : g < w2.heap.size := by omega
  have hp1' : (1 : Int) < P.length := by omega
  have hml1 : (⟨(P[1]'hp1).toArray⟩ : ByteArray).size <= 1000 := by
   have := hPl _ (List.getElem_mem hp1)
   show (P[1]'hp1).toArray.size <= 1000
   simpa using this
  have HM1 := zh (fun w => marks_lo ⟨(P[1]'hp1).toArray⟩ w hml1)
  simp only at HM1
  rw [show marksF (P[1]'hp1) = R.flank by rw [uh HFF, List.getD_eq_getElem?_getD, List.getElem?_drop, List.getElem?_eq_getElem hp1]; rfl] at HM1
  clear hd b3
  go_wp2_with fail
  refine (uh HM1 _).mono ?_
  rintro e w4 ⟨vf, vl, rfl, hI4, hY4, hb4, hlf, hll⟩
  have HLF := zh (And.intro (hlf.mono (m := w.heap.size) (by simp; omega)) (hll.mono (m := w.heap.size) (by simp; omega)))
  clear hlf hll
  have HI4 := zh hI4
  have HY4 := zh hY4
  obtain ⟨aof, capf, rfl, -, -, -⟩ := SlAt.open hI4
  obtain ⟨aol, capl, rfl, -, -, -⟩ := SlAt.open hY4
  have hbX : Below (w2.heap.size + 1) (w2.alloc (.cells #[.int .i64 ((c : Int) - 97), .slice aop (secs R.path).length capp, .slice aos (signs R.path).length caps, .slice none 0 0, .slice none 0 0] 188)) w4 := hb4.mono (by simp)
  have hbY : Below (w.heap.size + 1) (w.alloc (.cells #[.int .i64 0, .slice none 0 0, .slice none 0 0, .slice none 0 0, .slice none 0 0] 188)) w4 := (uh HBR).trans ((z05 hbX).mono (by omega))
  clear z0 z1 z2 z3 z4 x0 x1 x2 x3 x4 hd0 hI4 hY4 hb4
  obtain ⟨⟨z0, z1, z2, z3, z4⟩, ⟨x0, x1, x2, x3, x4⟩, qs4⟩ := five hbY
  obtain ⟨⟨y0, y1, y2, y3, y4⟩, ⟨f0, f1, f2, f3, f4⟩, qs5⟩ := five hbX
  have hne : w.heap.size ≠ w2.heap.size := by omega
  have hne' : w2.heap.size ≠ w.heap.size := by omega
  have HBX := zh hbX
  have HBY := zh hbY
  clear hbX hbY
  go_wp2
  have hT2 : Typed w4 w2.heap.size 188 := (Typed.new w2 _ _).below (uh HBX) (by omega)
  have hT1 : Typed w4 w.heap.size 188 := (Typed.new w _ _).below (uh HBY) (by omega)
  have hT3 := (hT1.setCell ⟨w2.heap.size, 3, none⟩ (.slice aof (secs R.flank).length capf)).setCell ⟨w2.heap.size, 4, none⟩ (.slice aol (signs R.flank).length capl)
  have hS := store5 hT3 (.int .i64 R.foot) (.slice aop (secs R.path).length capp) (.slice aos (signs R.path).length caps) (.slice aof (secs R.flank).length capf) (.slice aol (signs R.flank).length capl)
  have kS := fun e (he : 188 ≠ e) => ((Keeps.setCell (e := e) ⟨w2.heap.size, 3, none⟩ (.slice aof (secs R.flank).length capf) hT2 he).trans (Keeps.setCell ⟨w2.heap.size, 4, none⟩ (.slice aol (signs R.flank).length capl) (hT2.setCell ⟨w2.heap.size, 3, none⟩ (.slice aof (secs R.flank).length capf)) he)).trans (hS.1 e he)
  have hb9 := ((((z05 (uh HBY)).setCell (p := ⟨w2.heap.size, 3, none⟩) (by show w.heap.size <= w2.heap.size; omega) (.slice aof (secs R.flank).length capf)).setCell (p := ⟨w2.heap.size, 4, none⟩) (by show w.heap.size <= w2.heap.size; omega) (.slice aol (signs R.flank).length capl)).trans (hS.2 _ (Nat.le_refl _)))
  have kX := fun e => Keeps.below (e := e) (z05 (uh HBX))
  rw [uh HR]
  refine bodyPost_ret (v := .agg #[.int .i64 R.foot, .slice aop (secs R.path).length capp, .slice aos (signs R.path).length caps, .slice aof (secs R.flank).length capf, .slice aol (signs R.flank).length capl]) (by simp [results, Tryz.results167, go_sem, z0, z1, z2, z3, z4]) rfl ?_
  refine ⟨_, _, _, _, rfl, ⟨_, _, _, _, rfl, ((uh HI2).keep (kX _)).keep (kS _ (by decide)), ((uh HY2).keep (kX _)).keep (kS _ (by decide)), (uh HI4).keep (kS _ (by decide)), (uh HY4).keep (kS _ (by decide))⟩, hb9, lo5 (uh HLP) (uh HLF)⟩
 ·have hp1' : ¬ (1 : Int) < P.length := by omega
  have hfl : R.flank = [] := by
   rw [uh HFF, List.getD_eq_getElem?_getD, List.getElem?_drop, List.getElem?_eq_none (by omega)]; rfl
  have HFL := zh hfl
  clear b3 hfl
  go_wp2
  have hT : Typed w2 w.heap.size 188 := (Typed.new w _ _).below (uh HBR) (by omega)
  have hS := store5 hT (.int .i64 R.foot) (.slice aop (secs R.path).length capp) (.slice aos (signs R.path).length caps) (.slice none 0 0) (.slice none 0 0)
  have k3 := fun o => (hS.1 3 (by decide)).trans (Keeps.below (z02 _ o))
  have k5 := fun o => (hS.1 5 (by decide)).trans (Keeps.below (z02 _ o))
  have hb9 := fun o => (((z05 (uh HBR)).trans (hS.2 _ (Nat.le_refl _))).alloc (B := w.heap.size) (by simp [World.setCell]; omega) o)
  rw [uh HR]
  refine bodyPost_ret (v := .agg #[.int .i64 R.foot, .slice aop (secs R.path).length capp, .slice aos (signs R.path).length caps, .slice none 0 0, .slice none 0 0]) (by simp [results, Tryz.results167, go_sem, z0, z1, z2, z3, z4, qs]) rfl ?_
  refine ⟨_, _, _, _, rfl, ⟨_, _, _, _, rfl, (uh HI2).keep (k3 _), (uh HY2).keep (k5 _), ?_, ?_⟩, hb9 _, lo5 (uh HLP) ⟨Lo.nil _ _ _, Lo.nil _ _ _⟩⟩
  ·rw [uh HFL]; exact SlAt.nil _ _ _ _
  ·rw [uh HFL]; exact SlAt.nil _ _ _ _
end Go.Proofs.YtkbpocecbcaiiaaGreatDoor
