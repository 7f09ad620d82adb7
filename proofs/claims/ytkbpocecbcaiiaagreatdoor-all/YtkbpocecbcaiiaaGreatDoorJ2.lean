import Derived.Test.YtkbpocecbcaiiaaGreatDoorJ1
import Derived.Deep.RegionLaw
import Derived.Laws.BytesArg
import Derived.Deep.RegionWith
import Derived.Deep.QuietTactic
import Derived.BigQuiet
import Derived.WalkSmall
namespace Go.Proofs.YtkbpocecbcaiiaaGreatDoor
open Go.RowKit
theorem Keeps.alloc (e : TypeId) (w : World) (o : Obj) : Keeps e w (w.alloc o) := Keeps.below (z02 w o)
theorem Keeps.drew (e : TypeId) (w : World) : Keeps e w w.drew := fun _ _ _ _ => rfl
theorem z07 {B : Nat} {wr w1 : World} {o : Obj} {v : Value} {e e' : TypeId} {size n : Nat} {xs : List Value}
  (hown : wr.ownsRow B e size v n xs) (hg : (wr.alloc o).grownBy w1 v.ownBlock) (hne : e ≠ e') : Keeps e' wr w1 := by
 intro b cur fr hb
 have hlt : b < wr.heap.size := by
  rcases Nat.lt_or_ge b wr.heap.size with h | h
  ·exact h
  ·rw [Array.getElem?_eq_none h] at hb; cases hb
 have h1 : (wr.alloc o).heap[b]? = wr.heap[b]? := Below.heap_alloc _ _ _ hlt
 rw [<- h1]
 refine hg.block b (by simp; omega) ?_
 intro hrow
 rcases hown.2 with ⟨rfl, -⟩ | ⟨g, cap, cur', rfl, -, hg', -⟩
 ·cases hrow
 ·simp only [Value.ownBlock, Option.some.injEq] at hrow
  subst hrow
  rw [hb] at hg'
  simp at hg'
  exact hne hg'.2.1.symm
theorem z0e {b : Nat} {w w' : World} {e : TypeId} {size n : Nat} {v : Value} {xs : List Value} (h : w.ownsRow b e size v n xs) (hb : Below w.heap.size w w') : w'.ownsRow b e size v n xs := by
 refine ⟨h.1, ?_⟩
 rcases h.2 with h2 | ⟨g, cap, cur, hv, hg, hh, r⟩
 ·exact .inl h2
 ·refine .inr ⟨g, cap, cur, hv, hg, ?_, r⟩
  rw [hb.block g ((h.lt g (by rw [hv]; rfl)).2)]; exact hh
theorem z01 {b : Nat} {w w' : World} {e : TypeId} {size n : Nat} {v : Value} {xs : List Value} (h : w.ownsRow b e size v n xs) (hk : Keeps e w w') : w'.ownsRow b e size v n xs := by
 refine ⟨h.1, ?_⟩
 rcases h.2 with h2 | ⟨g, cap, cur, hv, hg, hh, r⟩
 ·exact .inl h2
 ·exact .inr ⟨g, cap, cur, hv, hg, (hk g cur (0, 0) hh).trans hh, r⟩
theorem z0z {P : Program} {w : World} {ops : Array Oper} {o : Oper} {a : Act} {K : Act -> World -> Prop} {Q : Exit -> Act -> World -> Prop} {E : Prop} (hgd : o.guard = none) (s x : Operand) (t : TypeId)
  (ho : o.op = .call { callee := .builtin .append, args := #[s, x], argTypes := #[t, t] })
  (base : Nat) (e : TypeId) (i : TypeInfo) (z : Value) (size bytes : Nat) (ht : P.underlying t = some (.slice e)) (hi : P.info? e = some i) (hz : i.zero = some z)
  (hsize : i.size = size) (hby : i.bytes = bytes) (hzs : z.cells.size = size) (hsz : 0 < size)
  (v : Value) (n : Nat) (xs : List Value) (hs : a.eval s = v) (hown : w.ownsRow base e size v n xs)
  (ad : Addr) (m c : Nat) (news : List Value) (hx : a.eval x = .slice (some ad) m c) (hl : news.length = m * size) (hnews : ∀ j u, news[j]? = some u -> w.cell? (ad.add j) = some u) (h1 : ∀ u ∈ news, u.oneCell' = true)
  (h63 : n + m <= maxLen) (hbytes : (n + m) * bytes <= 140737488355328) (hbase : base <= w.heap.size)
  (h : ∀ v' w', w'.ownsRow base e size v' (n + m) (xs ++ news) -> w.grownBy w' v.ownBlock -> K (a.put o.dst v') w') :
  if Region.wanted o (yielded ops a.tmps) = true then Oper.wp P o a w K Q else E := by
 have hw : Region.wanted o (yielded ops a.tmps) = true := by simp [Region.wanted, hgd]
 rw [if_pos hw]
 exact wp_append_own w s x t ho base e i z size bytes ht hi hz hsize hby hzs hsz v n xs hs hown ad m c news hx hl hnews h1 h63 hbytes hbase (fun v' w' a b _ => h v' w' a b)
theorem z2m (w : World) (x : Value) (t : TypeId) : ∀ (j : Nat) (u : Value), [x][j]? = some u -> ((w.alloc (.cells #[x] t)).drew).cell? ((⟨w.heap.size, 0, none⟩ : Addr).add j) = some u := z0o w x t
theorem z23 {w w1 : World} {r : Option Nat} (h : w.drew.grownBy w1 r) : w.grownBy w1 r := ⟨h.os, h.tape, h.output, h.size, h.block⟩
theorem z03 {w : World} {b : Nat} {e : TypeId} {size n : Nat} {v : Value} {xs : List Value} (h : w.ownsRow b e size v n xs) : ∃ ah ch, v = .slice ah n ch := by
 rcases h.2 with ⟨h, h0⟩ | ⟨g, cap, cur, h, -⟩
 ·exact ⟨none, 0, by rw [h, h0]⟩
 ·exact ⟨_, _, h⟩
theorem z08 {w : World} {g j : Nat} {cur : Array Value} {e : TypeId} (u : Value) (h : w.heap[g]? = some (.cells cur e (0, 0))) : (w.setCell ⟨g, j, none⟩ u).heap[g]? = some (.cells (cur.setIfInBounds j u) e (0, 0)) :=
 heap_setCell_same w g j cur e u h
theorem z0c {w : World} {g : Nat} {cur : Array Value} {e : TypeId} (h : w.heap[g]? = some (.cells cur e (0, 0))) (j : Nat) : w.cell? ⟨g, j, none⟩ = cur[j]? := z13 h j
theorem z0q {w : World} {g : Nat} {cur : Array Value} {e : TypeId} (h : w.heap[g]? = some (.cells cur e (0, 0))) (j : Nat) : w.frozen? ⟨g, j, none⟩ = false := by
 simp [World.frozen?, h]
theorem z0f {w : World} {g : Nat} {o : Obj} (h : w.heap[g]? = some o) : g < w.heap.size := by
 rcases Nat.lt_or_ge g w.heap.size with h' | h'
 ·exact h'
 ·rw [Array.getElem?_eq_none h'] at h; cases h
theorem six0 {w : World} {g : Nat} {c0 c1 c2 c3 c4 c5 : Value} {e : TypeId} (h : w.heap[g]? = some (.cells #[c0, c1, c2, c3, c4, c5] e (0, 0))) :
  (w.cell? ⟨g, 0, none⟩ = some c0 /\ w.cell? ⟨g, 1, none⟩ = some c1 /\ w.cell? ⟨g, 2, none⟩ = some c2 /\ w.cell? ⟨g, 3, none⟩ = some c3 /\ w.cell? ⟨g, 4, none⟩ = some c4 /\ w.cell? ⟨g, 5, none⟩ = some c5) ∧
  (w.frozen? ⟨g, 0, none⟩ = false /\ w.frozen? ⟨g, 1, none⟩ = false /\ w.frozen? ⟨g, 2, none⟩ = false /\ w.frozen? ⟨g, 3, none⟩ = false /\ w.frozen? ⟨g, 4, none⟩ = false /\ w.frozen? ⟨g, 5, none⟩ = false) /\ g < w.heap.size :=
 ⟨⟨z0c h 0, z0c h 1, z0c h 2, z0c h 3, z0c h 4, z0c h 5⟩, ⟨z0q h 0, z0q h 1, z0q h 2, z0q h 3, z0q h 4, z0q h 5⟩, z0f h⟩
def All2 {α β : Type} (R : α -> β -> Prop) : List α -> List β -> Prop
 | [], [] => True
 | a :: l, b :: m => R a b /\ All2 R l m
 | _, _ => False
theorem All2.mono {α β : Type} {R S : α -> β -> Prop} (h : ∀ a b, R a b -> S a b) : ∀ {l : List α} {m : List β}, All2 R l m -> All2 S l m
 | [], [], _ => trivial
 | _ :: _, _ :: _, ⟨h1, h2⟩ => ⟨h _ _ h1, All2.mono h h2⟩
theorem All2.snoc {α β : Type} {R : α -> β -> Prop} {a : α} {b : β} (h : R a b) : ∀ {l : List α} {m : List β}, All2 R l m -> All2 R (l ++ [a]) (m ++ [b])
 | [], [], _ => ⟨h, trivial⟩
 | _ :: _, _ :: _, ⟨h1, h2⟩ => ⟨h1, All2.snoc h h2⟩
theorem All2.length {α β : Type} {R : α -> β -> Prop} : ∀ {l : List α} {m : List β}, All2 R l m -> l.length = m.length
 | [], [], _ => rfl
 | _ :: _, _ :: _, ⟨_, h2⟩ => by simp [All2.length h2]
theorem All2.get {α β : Type} {R : α -> β -> Prop} : ∀ {l : List α} {m : List β}, All2 R l m -> ∀ i (h : i < l.length) (h' : i < m.length), R l[i] m[i]
 | _ :: _, _ :: _, ⟨h1, h2⟩, i, h, h' => match i, h, h' with
  | 0, _, _ => h1
  | i + 1, h, h' => All2.get h2 i (by simpa using h) (by simpa using h')
theorem z1k (css : List (List Value)) (sz : Nat) (hl : ∀ c, c ∈ css -> c.length = sz) : ∀ (i j : Nat) (hi : i < css.length), j < sz -> css.flatten[i * sz + j]? = css[i][j]? := by
 induction css with
 | nil => intro i j hi; simp at hi
 | cons c css ih =>
  intro i j hi hj
  have hc : c.length = sz := hl c (List.mem_cons_self ..)
  cases i with
  | zero => simp only [Nat.zero_mul, Nat.zero_add, List.flatten_cons, List.getElem_cons_zero]; rw [List.getElem?_append_left (by omega)]
  | succ i =>
   have := ih (fun c hc => hl c (List.mem_cons_of_mem _ hc)) i j (by simpa using hi) hj
   rw [List.flatten_cons, List.getElem?_append_right (by rw [hc, Nat.succ_mul]; omega), hc]
   rw [show (i + 1) * sz + j - sz = i * sz + j by rw [Nat.succ_mul]; omega, this]; rfl
theorem SlAt.ofOwnN {α : Type} {e : TypeId} {sz : Nat} {C : World -> α -> List Value -> Prop} {w : World} {base : Nat} {v : Value} {l : List α} {css : List (List Value)} {n : Nat}
  (h : w.ownsRow base e sz v n css.flatten) (hA : All2 (C w) l css) (hl : ∀ c, c ∈ css -> c.length = sz) (hn : n = l.length) : SlAt e sz C w v l := by
 subst hn
 have hlen := hA.length
 obtain ⟨-, h⟩ := h
 rcases h with ⟨rfl, h0⟩ | ⟨g, cap, cur, rfl, -, hg, h1, h2, h3, h4⟩
 ·have : l = [] := List.length_eq_zero_iff.1 h0
  subst this
  exact ⟨none, 0, rfl, Nat.le_refl _, Nat.zero_le _, .inl rfl⟩
 ·refine ⟨some ⟨g, 0, none⟩, cap, rfl, h1, h2, .inr ⟨g, 0, cur, (0, 0), rfl, hg, fun i hi => ⟨css[i]'(by omega), hl _ (List.getElem_mem _), hA.get i hi (by omega), fun j hj => ?_⟩⟩⟩
  have hlt : i * sz + j < l.length * sz := by
   have : (i + 1) * sz <= l.length * sz := Nat.mul_le_mul_right _ hi
   rw [Nat.succ_mul] at this; omega
  have h5 : (cur.toList.take (l.length * sz))[i * sz + j]? = css.flatten[i * sz + j]? := by rw [h4]
  rw [List.getElem?_take_of_lt hlt, z1k css sz hl i j (by omega) hj] at h5
  simpa using h5
theorem z3n (w : World) (cs : List Value) (t : TypeId) : ∀ (j : Nat) (u : Value), cs[j]? = some u -> (w.alloc (.cells cs.toArray t)).cell? ((⟨w.heap.size, 0, none⟩ : Addr).add j) = some u := by
 intro j u hj
 have := z13 (heap_alloc_new w (.cells cs.toArray t)) j
 have e : (⟨w.heap.size, 0, none⟩ : Addr).add j = ⟨w.heap.size, j, none⟩ := by by_cases h : j = 0 <;> simp [Addr.add, h]
 rw [e, this]; simpa using hj
theorem z0h (w : World) (cs : List Value) (t : TypeId) (n : Nat) (hn : n = w.heap.size) : ∀ (j : Nat) (u : Value), cs[j]? = some u -> (w.alloc (.cells cs.toArray t)).cell? ((⟨n, 0, none⟩ : Addr).add j) = some u := by
 subst hn; exact z3n w cs t
theorem duo0 {w : World} {g : Nat} {c0 c1 : Value} {e : TypeId} (h : w.heap[g]? = some (.cells #[c0, c1] e (0, 0))) :
  (w.cell? ⟨g, 0, none⟩ = some c0 /\ w.cell? ⟨g, 1, none⟩ = some c1) /\ (w.frozen? ⟨g, 0, none⟩ = false /\ w.frozen? ⟨g, 1, none⟩ = false) /\ g < w.heap.size :=
 ⟨⟨z0c h 0, z0c h 1⟩, ⟨z0q h 0, z0q h 1⟩, z0f h⟩
theorem store6 {W : World} {b : Nat} {t : TypeId} (hT : Typed W b t) (u0 u1 u2 u3 u4 u5 : Value) :
  (∀ e, t ≠ e -> Keeps e W ((((((W.setCell ⟨b, 0, none⟩ u0).setCell ⟨b, 1, none⟩ u1).setCell ⟨b, 2, none⟩ u2).setCell ⟨b, 3, none⟩ u3).setCell ⟨b, 4, none⟩ u4).setCell ⟨b, 5, none⟩ u5)) ∧
  (∀ B, B <= b -> Below B W ((((((W.setCell ⟨b, 0, none⟩ u0).setCell ⟨b, 1, none⟩ u1).setCell ⟨b, 2, none⟩ u2).setCell ⟨b, 3, none⟩ u3).setCell ⟨b, 4, none⟩ u4).setCell ⟨b, 5, none⟩ u5)) := by
 have h5 := store5 hT u0 u1 u2 u3 u4
 have hT5 := ((((hT.setCell ⟨b, 0, none⟩ u0).setCell ⟨b, 1, none⟩ u1).setCell ⟨b, 2, none⟩ u2).setCell ⟨b, 3, none⟩ u3).setCell ⟨b, 4, none⟩ u4
 exact ⟨fun e he => (h5.1 e he).trans (Keeps.setCell ⟨b, 5, none⟩ u5 hT5 he), fun B hB => (h5.2 B hB).setCell (p := ⟨b, 5, none⟩) hB u5⟩
structure RLn where
 ph : Nat
 train : Nat
 been : Bool
 marks : List Bool
 gone : Nat
 count : Nat
structure RBx where
 L : Lay
 lines : List RLn
 wanted : List Nat
 failed : List Bool
 late : List Nat
 sta : List Nat
 waits : List Nat
def RLn0 : RLn := ⟨46, 0, false, [], 0, 0⟩
def CRLn (w : World) (x : RLn) (cs : List Value) : Prop := ∃ vm, cs = [.int .u8 x.ph, .int .i64 x.train, .bool x.been, vm, .int .i64 x.gone, .int .i64 x.count] /\ Bools w vm x.marks
theorem CRLn.keep {w w' : World} {x : RLn} {cs : List Value} (h : CRLn w x cs) (k : Keeps 4 w w') : CRLn w' x cs := by
 obtain ⟨vm, e, a⟩ := h
 exact ⟨vm, e, a.keep k⟩
def RLns (w : World) (v : Value) (l : List RLn) : Prop := SlAt 161 6 CRLn w v l
theorem RLns.keep {w w' : World} {v : Value} {l : List RLn} (h : RLns w v l) (k : Keeps 161 w w') (k1 : Keeps 4 w w') : RLns w' v l := SlAt.keep h k (fun _ _ h => h.keep k1)
def RBoxAt (w : World) (g : Nat) (B : RBx) : Prop := ∃ vh vr vt vl vw vf vd va vq,
 w.heap[g]? = some (.cells #[.int .i64 B.L.T, .int .i64 B.L.D, .int .i64 B.L.Q, vh, vr, vt, vl, vw, vf, vd, va, vq] 159 (0, 0)) ∧
 Bools w vh B.L.sw /\ RRts w vr B.L.rts /\ RTns w vt B.L.tns /\ RLns w vl B.lines /\ Byts w vw B.wanted /\ Bools w vf B.failed /\ Ints w vd B.late /\ Ints w va B.sta /\ Ints w vq B.waits
theorem RBoxAt.below {w w' : World} {g : Nat} {B : RBx} (h : RBoxAt w g B) (k : Below w.heap.size w w') : RBoxAt w' g B := by
 obtain ⟨vh, vr, vt, vl, vw, vf, vd, va, vq, e, h1, h2, h3, h4, h5, h6, h7, h8, h9⟩ := h
 have kk := fun e => Keeps.below (e := e) k
 exact ⟨vh, vr, vt, vl, vw, vf, vd, va, vq, (k.block g (z0f e)).trans e, h1.keep (kk _), h2.keep (kk _) (kk _) (kk _), h3.keep (kk _) (kk _), h4.keep (kk _) (kk _), h5.keep (kk _), h6.keep (kk _), h7.keep (kk _), h8.keep (kk _), h9.keep (kk _)⟩
theorem box12 {w : World} {g : Nat} {c0 c1 c2 c3 c4 c5 c6 c7 c8 c9 c10 c11 : Value} {e : TypeId} (h : w.heap[g]? = some (.cells #[c0, c1, c2, c3, c4, c5, c6, c7, c8, c9, c10, c11] e (0, 0))) :
  (w.cell? ⟨g, 3, none⟩ = some c3 /\ w.cell? ⟨g, 4, none⟩ = some c4 /\ w.cell? ⟨g, 5, none⟩ = some c5 /\ w.cell? ⟨g, 6, none⟩ = some c6 /\ w.cell? ⟨g, 7, none⟩ = some c7 /\ w.cell? ⟨g, 8, none⟩ = some c8 ∧
   w.cell? ⟨g, 9, none⟩ = some c9 /\ w.cell? ⟨g, 10, none⟩ = some c10 /\ w.cell? ⟨g, 11, none⟩ = some c11) ∧
  (w.frozen? ⟨g, 6, none⟩ = false /\ w.frozen? ⟨g, 7, none⟩ = false /\ w.frozen? ⟨g, 8, none⟩ = false /\ w.frozen? ⟨g, 9, none⟩ = false /\ w.frozen? ⟨g, 10, none⟩ = false /\ w.frozen? ⟨g, 11, none⟩ = false) /\ g < w.heap.size :=
 ⟨⟨z0c h 3, z0c h 4, z0c h 5, z0c h 6, z0c h 7, z0c h 8, z0c h 9, z0c h 10, z0c h 11⟩,
  ⟨z0q h 6, z0q h 7, z0q h 8, z0q h 9, z0q h 10, z0q h 11⟩, z0f h⟩
def z09 (l : List Nat) : ByteArray := ⟨(l.map UInt8.ofNat).toArray⟩
theorem z0n (l : List Nat) : (z09 l).size = l.length := by simp [z09, ByteArray.size]
theorem z10 (l : List Nat) (x : Nat) : z09 (l ++ [x]) = z09 l ++ ⟨#[UInt8.ofNat x]⟩ := by
 apply ByteArray.ext
 simp [z09]
def RBx.line (B : RBx) (r : Nat) : RLn := B.lines.getD r RLn0
def RBx.lockB (B : RBx) (s r : Nat) : Bool := (B.line r).ph != 46 && ((secs (B.L.rt r).path).drop (B.line r).gone).contains s
def RBx.lockedBy (B : RBx) (s : Nat) : Option Nat := (List.range B.lines.length).find? (B.lockB s)
def optI : Option Nat -> Int
 | none => -1
 | some r => r
def lockC : Option Nat -> Nat
 | none => 46
 | some r => 65 + r
def RBx.locksT (B : RBx) : List Nat := (List.range B.L.sw.length).map (fun s => lockC (B.lockedBy s))
def RBx.phasesT (B : RBx) : List Nat := B.lines.map (·.ph)
def RBx.swT (B : RBx) (s : Nat) : List Nat := if B.L.sw.getD s false then [if B.failed.getD s false then 120 else B.wanted.getD s 0] else []
def RBx.switchesT (B : RBx) : List Nat := (List.range B.L.sw.length).flatMap B.swT
def RBx.stateT (B : RBx) : List Nat := B.sta.map (48 + ·)
def RBx.queueT (B : RBx) : List Nat := B.waits.map (49 + ·)
theorem one_str (P : Program) (S T e : TypeId) (hs : P.underlying S = some (.slice e)) (he : P.underlying e = some (.int .u8)) (hd : P.underlying T = some .string) (w : World) (t : TypeId) (x : Int) :
  (convert S T (.slice (some ⟨w.heap.size, 0, none⟩) 1 1)).run P (w.alloc (.cells #[.int .u8 x] t)) = .ok (.string ⟨#[UInt8.ofNat x.toNat]⟩) (w.alloc (.cells #[.int .u8 x] t)) := by
 have := run_convert_bytes_arg (P := P) (w.alloc (.cells #[.int .u8 x] t)) S e hs he w.heap.size 0 1 1 [x] rfl (fun i hi => by
  obtain rfl : i = 0 := by omega
  have := z13 (heap_alloc_new w (.cells #[.int .u8 x] t)) 0
  simp) T hd
 rw [this]
 simp [strOfNums]
theorem Tryz.oneStr (w : World) (t : TypeId) (x : Int) :
  (convert 75 9 (.slice (some ⟨w.heap.size, 0, none⟩) 1 1)).run Tryz.prog (w.alloc (.cells #[.int .u8 x] t)) = .ok (.string ⟨#[UInt8.ofNat x.toNat]⟩) (w.alloc (.cells #[.int .u8 x] t)) :=
 one_str _ _ _ 5 Tryz.underlying75 Tryz.underlying5 Tryz.underlying9 w t x
theorem z1a {α : Type} (f : α -> Nat) (l : List α) (k : Nat) (h : k < l.length) : (l.take (k + 1)).map f = (l.take k).map f ++ [f l[k]] := by
 rw [List.take_succ_eq_append_getElem h, List.map_append]; rfl
theorem wrap8 (x : Int) (h0 : 0 <= x) (h : x < 256) : IntKind.u8.wrap x = x := Go.IntWalk.u8_in _ (by omega)
set_option maxHeartbeats 400000 in
theorem rPhases_any (g : Nat) (B : RBx) (w : World) (h : RBoxAt w g B) (hl : B.lines.length <= 1000) :
  Calls Tryz.prog 67 #[.pointer (some ⟨g, 0, none⟩)] w fun e w' => e = .returned (.string (z09 B.phasesT)) /\ Below w.heap.size w w' := by
 obtain ⟨vh, vr, vt, vl, vw, vf, vd, va, vq, hB, -, -, -, h4, -⟩ := h
 obtain ⟨ao, cap, rfl, -, hm, h3⟩ := SlAt.open h4
 unfold RBx.phasesT
 generalize B.lines = l at *
 obtain ⟨⟨-, -, -, q6, -⟩, -, qg⟩ := box12 hB
 unfold maxLen at hm
 clear h4 hB
 have kc := Tryz.oneStr
 go_enter Tryz.func67, Tryz.ntmps67
 go_wp2
 go_loopw [3, 4] (fun d i wr => ∃ k : Nat, k <= l.length /\ i = .int .i64 k /\ d = .string (z09 ((l.take k).map (·.ph))) /\ Below w.heap.size w wr) (fun _ i _ => l.length - (intOf i).toNat)
 case atStart => exact ⟨0, Nat.zero_le _, rfl, rfl, Below.refl _ _⟩
 case round =>
  obtain ⟨k, hk, rfl, rfl, hb⟩ := hrel
  have hsz := z0n ((l.take k).map (·.ph))
  rw [List.length_map, List.length_take, Nat.min_eq_left hk] at hsz
  obtain ⟨p, hp⟩ : ∃ p, p = z09 ((l.take k).map (·.ph)) := ⟨_, rfl⟩
  rw [<- hp] at hsz ⊢
  have HP := zh hp
  rw [<- hb.cell (p := ⟨g, 6, none⟩) qg] at q6
  have HB := zh hb
  have hbs := hb.size
  clear hp
  by_cases hlt : k < l.length
  ·obtain ⟨gl, off, hao, hg, cs, -, hC, hc⟩ := h3 k hlt
   subst hao
   obtain ⟨vm, hcs, -⟩ := hC
   subst hcs
   have hc0 := hc 0 (by omega)
   rw [<- hb.cell (p := ⟨gl, _, none⟩) hg] at hc0
   simp at hc0
   have HS := zh (show z09 ((l.take (k + 1)).map (·.ph)) = p ++ ⟨#[UInt8.ofNat l[k].ph]⟩ by
    rw [uh HP, z1a _ _ _ hlt, z10])
   clear hc h3 hb
   generalize l[k].ph = t at *
   go_wp2
   exact ⟨⟨k + 1, by omega, by go_num, by first | (rw [uh HS]; done) | (rw [uh HS]; simp; done) | (rw [uh HS, u2]; done), (uh HB).alloc hbs _⟩, by simp [intOf]; omega⟩
  ·obtain rfl : k = l.length := by omega
   rw [List.take_length] at HP
   clear h3 hb
   go_wp2
   go_ret
   exact ⟨by first | (rw [uh HP]; done) | (rw [<- uh HP]; rfl), uh HB⟩
set_option maxHeartbeats 400000 in
theorem rState_any (g : Nat) (B : RBx) (w : World) (h : RBoxAt w g B) (hl : B.sta.length <= 1000) (hs : ∀ x, x ∈ B.sta -> x <= 100) :
  Calls Tryz.prog 69 #[.pointer (some ⟨g, 0, none⟩)] w fun e w' => e = .returned (.string (z09 B.stateT)) /\ Below w.heap.size w w' := by
 obtain ⟨vh, vr, vt, vl, vw, vf, vd, va, vq, hB, -, -, -, -, -, -, -, h4, -⟩ := h
 obtain ⟨ao, cap, rfl, -, hm, h3⟩ := SlAt.open h4
 unfold RBx.stateT
 generalize B.sta = l at *
 obtain ⟨⟨-, -, -, -, -, -, -, q6, -⟩, -, qg⟩ := box12 hB
 unfold maxLen at hm
 clear h4 hB
 have kc := Tryz.oneStr
 have HX := zh hs
 clear hs
 go_enter Tryz.func69, Tryz.ntmps69
 go_wp2
 go_loopw [3, 4] (fun d i wr => ∃ k : Nat, k <= l.length /\ i = .int .i64 k /\ d = .string (z09 ((l.take k).map (48 + ·))) /\ Below w.heap.size w wr) (fun _ i _ => l.length - (intOf i).toNat)
 case atStart => exact ⟨0, Nat.zero_le _, rfl, rfl, Below.refl _ _⟩
 case round =>
  obtain ⟨k, hk, rfl, rfl, hb⟩ := hrel
  have hsz := z0n ((l.take k).map (48 + ·))
  rw [List.length_map, List.length_take, Nat.min_eq_left hk] at hsz
  obtain ⟨p, hp⟩ : ∃ p, p = z09 ((l.take k).map (48 + ·)) := ⟨_, rfl⟩
  rw [<- hp] at hsz ⊢
  have HP := zh hp
  rw [<- hb.cell (p := ⟨g, 10, none⟩) qg] at q6
  have HB := zh hb
  have hbs := hb.size
  clear hp
  by_cases hlt : k < l.length
  ·obtain ⟨gl, off, hao, hg, cs, -, hC, hc⟩ := h3 k hlt
   subst hao
   unfold CInt at hC
   subst hC
   have hc0 := hc 0 (by omega)
   rw [<- hb.cell (p := ⟨gl, _, none⟩) hg] at hc0
   simp at hc0
   have hx := uh HX _ (List.getElem_mem hlt)
   have HS := zh (show z09 ((l.take (k + 1)).map (48 + ·)) = p ++ ⟨#[UInt8.ofNat (48 + l[k])]⟩ by
    rw [uh HP, z1a _ _ _ hlt, z10])
   clear hc h3 hb
   generalize l[k] = t at *
   have u1 := wrap8 (48 + (t : Int)) (by omega) (by omega)
   have u2 : (48 + (t : Int)).toNat = 48 + t := by omega
   go_wp2
   exact ⟨⟨k + 1, by omega, by go_num, by first | (rw [uh HS]; done) | (rw [uh HS]; simp; done) | (rw [uh HS, u2]; done), (uh HB).alloc hbs _⟩, by simp [intOf]; omega⟩
  ·obtain rfl : k = l.length := by omega
   rw [List.take_length] at HP
   clear h3 hb
   go_wp2
   go_ret
   exact ⟨by first | (rw [uh HP]; done) | (rw [<- uh HP]; rfl), uh HB⟩
set_option maxHeartbeats 400000 in
theorem rQueue_any (g : Nat) (B : RBx) (w : World) (h : RBoxAt w g B) (hl : B.waits.length <= 1000) (hs : ∀ x, x ∈ B.waits -> x <= 100) :
  Calls Tryz.prog 70 #[.pointer (some ⟨g, 0, none⟩)] w fun e w' => e = .returned (.string (z09 B.queueT)) /\ Below w.heap.size w w' := by
 obtain ⟨vh, vr, vt, vl, vw, vf, vd, va, vq, hB, -, -, -, -, -, -, -, -, h4⟩ := h
 obtain ⟨ao, cap, rfl, -, hm, h3⟩ := SlAt.open h4
 unfold RBx.queueT
 generalize B.waits = l at *
 obtain ⟨⟨-, -, -, -, -, -, -, -, q6⟩, -, qg⟩ := box12 hB
 unfold maxLen at hm
 clear h4 hB
 have kc := Tryz.oneStr
 have HX := zh hs
 clear hs
 go_enter Tryz.func70, Tryz.ntmps70
 go_wp2
 go_loopw [3, 4] (fun d i wr => ∃ k : Nat, k <= l.length /\ i = .int .i64 k /\ d = .string (z09 ((l.take k).map (49 + ·))) /\ Below w.heap.size w wr) (fun _ i _ => l.length - (intOf i).toNat)
 case atStart => exact ⟨0, Nat.zero_le _, rfl, rfl, Below.refl _ _⟩
 case round =>
  obtain ⟨k, hk, rfl, rfl, hb⟩ := hrel
  have hsz := z0n ((l.take k).map (49 + ·))
  rw [List.length_map, List.length_take, Nat.min_eq_left hk] at hsz
  obtain ⟨p, hp⟩ : ∃ p, p = z09 ((l.take k).map (49 + ·)) := ⟨_, rfl⟩
  rw [<- hp] at hsz ⊢
  have HP := zh hp
  rw [<- hb.cell (p := ⟨g, 11, none⟩) qg] at q6
  have HB := zh hb
  have hbs := hb.size
  clear hp
  by_cases hlt : k < l.length
  ·obtain ⟨gl, off, hao, hg, cs, -, hC, hc⟩ := h3 k hlt
   subst hao
   unfold CInt at hC
   subst hC
   have hc0 := hc 0 (by omega)
   rw [<- hb.cell (p := ⟨gl, _, none⟩) hg] at hc0
   simp at hc0
   have hx := uh HX _ (List.getElem_mem hlt)
   have HS := zh (show z09 ((l.take (k + 1)).map (49 + ·)) = p ++ ⟨#[UInt8.ofNat (49 + l[k])]⟩ by
    rw [uh HP, z1a _ _ _ hlt, z10])
   clear hc h3 hb
   generalize l[k] = t at *
   have u1 := wrap8 (49 + (t : Int)) (by omega) (by omega)
   have u2 : (49 + (t : Int)).toNat = 49 + t := by omega
   go_wp2
   exact ⟨⟨k + 1, by omega, by go_num, by first | (rw [uh HS]; done) | (rw [uh HS]; simp; done) | (rw [uh HS, u2]; done), (uh HB).alloc hbs _⟩, by simp [intOf]; omega⟩
  ·obtain rfl : k = l.length := by omega
   rw [List.take_length] at HP
   clear h3 hb
   go_wp2
   go_ret
   exact ⟨by first | (rw [uh HP]; done) | (rw [<- uh HP]; rfl), uh HB⟩
def z1b (l : List Nat) (x : Int) : Int := (l.filter (fun y : Nat => ((y : Int) == x))).length
theorem timesZ_bd (l : List Nat) (x : Int) : 0 <= z1b l x /\ z1b l x <= l.length := by
 unfold z1b; exact ⟨by omega, by have := List.length_filter_le (fun y : Nat => ((y : Int) == x)) l; omega⟩
theorem timesZ_snoc (l : List Nat) (x : Int) (k : Nat) (h : k < l.length) : z1b (l.take (k + 1)) x = z1b (l.take k) x + if ((l[k] : Int) == x) = true then 1 else 0 := by
 unfold z1b
 rw [List.take_succ_eq_append_getElem h, List.filter_append]
 by_cases hh : ((l[k] : Int) == x) = true <;> simp [hh]
set_option maxHeartbeats 400000 in
theorem z0m (v : Value) (l : List Nat) (x : Int) (w : World) (h : SlAt 3 1 CInt w v l) :
  Calls Tryz.prog 155 #[v, .int .i64 x] w fun e w' => e = .returned (.int .i64 (z1b l x)) /\ w' = w := by
 obtain ⟨ao, cap, rfl, h1, h2, h3⟩ := h.open
 clear h
 unfold maxLen at h2
 go_enter Tryz.func155, Tryz.ntmps155
 go_wp2
 go_loop [5, 6] (fun n i => ∃ k : Nat, k <= l.length /\ i = .int .i64 k /\ n = .int .i64 (z1b (l.take k) x)) (fun _ i => l.length - (intOf i).toNat)
 case atStart => exact ⟨0, Nat.zero_le _, rfl, rfl⟩
 case round =>
  obtain ⟨k, hk, rfl, rfl⟩ := hrel
  have hd := timesZ_bd (l.take k) x
  have hl : (l.take k).length <= k := List.length_take_le _ _
  by_cases hlt : k < l.length
  ·obtain ⟨g, off, hao, -, cs, -, hC, hc⟩ := h3 k hlt
   unfold CInt at hC
   subst hC
   have hc0 := hc 0 (by omega)
   have HS := zh (timesZ_snoc l x k hlt)
   clear hc h3
   simp at hc0
   go_wp2
   ·have ht : (((l[k] : Nat) : Int) == x) = true := by assumption
    exact ⟨⟨k + 1, by omega, by go_num, by rw [uh HS, if_pos ht]⟩, by simp [intOf]; omega⟩
   ·have ht : (((l[k] : Nat) : Int) == x) = false := by assumption
    exact ⟨⟨k + 1, by omega, by go_num, by rw [uh HS, if_neg (by rw [ht]; simp)]; simp⟩, by simp [intOf]; omega⟩
  ·go_wp2
   go_ret
   exact ⟨z11 (by rw [List.take_of_length_le (by omega)]), rfl⟩
theorem lastN_eq (p : List (Nat × Nat)) (h : p ≠ []) : ∃ hk : p.length - 1 < (secs p).length, (secs p)[p.length - 1] = lastN p := by
 have hp : 0 < p.length := List.length_pos_iff.2 h
 refine ⟨by simp [secs]; omega, ?_⟩
 simp [secs, lastN, List.getLastD_eq_getLast?, List.getLast?_eq_getElem?, List.getElem?_eq_getElem (show p.length - 1 < p.length by omega)]
set_option maxHeartbeats 400000 in
theorem End_any (v : Value) (L : Lay) (r : Nat) (w : World) (h : RPlan w v L) (hr : r < L.rts.length) (hp : L.Paths) :
  Calls Tryz.prog 170 #[v, .int .i64 r] w fun e w' => e = .returned (.int .i64 (L.endOf r)) /\ Below w.heap.size w w' := by
 obtain ⟨vh, vr, vt, rfl, -, hR, -⟩ := h
 obtain ⟨ao, cap, rfl, h1, h2, h3⟩ := SlAt.open hR
 obtain ⟨g, off, rfl, hg, cs, -, hC, hc⟩ := h3 r hr
 obtain ⟨vp, vs, vf, vl, rfl, hP, -, -, -⟩ := hC
 have hc1 := hc 1 (by omega)
 obtain ⟨ao2, cap2, rfl, g1, g2, g3⟩ := SlAt.open hP
 have hne : L.rts[r].path ≠ [] := hp _ (List.getElem_mem hr)
 obtain ⟨hk, he⟩ := lastN_eq _ hne
 have hpos : 0 < L.rts[r].path.length := List.length_pos_iff.2 hne
 obtain ⟨gp, offp, rfl, hgp, cs2, -, hC2, hd⟩ := g3 _ hk
 unfold CInt at hC2
 subst hC2
 have hd0 := hd 0 (by omega)
 have hend : L.endOf r = lastN L.rts[r].path := by simp [Lay.endOf, Lay.rt, List.getD_eq_getElem?_getD, List.getElem?_eq_getElem hr]
 rw [hend]
 rw [he] at hd0
 clear hc hd g3 h3 hR hP hend he hp
 unfold maxLen at h2 g2
 generalize L.rts[r].path = p at *
 simp [secs] at hd0 hc1 g1 hk
 go_enter Tryz.func170, Tryz.ntmps170
 go_wp2
 go_ret
 exact ⟨rfl, z02 _ _⟩
theorem z2n {α : Type} (p : α -> Bool) (l : List α) (k : Nat) (h : k < l.length) : (l.take (k + 1)).any p = ((l.take k).any p || p l[k]) := by
 rw [List.take_succ_eq_append_getElem h, List.any_append, List.any_cons, List.any_nil, Bool.or_false]
theorem rt_eq (L : Lay) (r : Nat) (h : r < L.rts.length) : L.rt r = L.rts[r] := by
 simp [Lay.rt, List.getD_eq_getElem?_getD, List.getElem?_eq_getElem h]
set_option maxHeartbeats 400000 in
theorem ends_any (v : Value) (L : Lay) (s : Nat) (w : World) (h : RPlan w v L) (hp : L.Paths) :
  Calls Tryz.prog 168 #[v, .int .i64 s] w fun e w' => e = .returned (.bool (L.endsB s)) /\ Below w.heap.size w w' := by
 have HR := zh h
 obtain ⟨vh, vr, vt, rfl, -, hR, -⟩ := h
 obtain ⟨ao, cap, rfl, h1, h2, -⟩ := SlAt.open hR
 clear hR
 unfold maxLen at h2
 go_enter Tryz.func168, Tryz.ntmps168
 go_wp2
 go_loopw [5] (fun i wr => ∃ k : Nat, k <= L.rts.length /\ i = .int .i64 k /\ (L.rts.take k).any (fun r => lastN r.path == s) = false ∧
   Below (w.heap.size + 1) (w.alloc (z0v L vh (.slice ao L.rts.length cap) vt)) wr) (fun i _ => L.rts.length - (intOf i).toNat)
 case atStart => exact ⟨0, Nat.zero_le _, rfl, rfl, Below.refl _ _⟩
 case round =>
  obtain ⟨k, hk, rfl, hz, hb⟩ := hrel
  have HZ := zh hz
  have HB := zh hb
  obtain ⟨q0, q1, q2, q3, q4, q5, qs⟩ := z15 hb
  clear hz hb
  by_cases hlt : k < L.rts.length
  ·have HA := zh (z2n (fun r => lastN r.path == s) L.rts k hlt)
   have HE := zh (rt_eq L k hlt)
   go_wp2_with (go_at_call 170; refine (End_any _ L k _ ((uh HR).below (z05 (uh HB))) hlt hp).mono ?_; rintro e w' ⟨rfl, hb'⟩)
   ·have ht : ((L.endOf k : Int) == (s : Int)) = true := by assumption
    have hs : L.endsB s = true := by
     rw [Lay.endsB, List.any_eq_true]
     refine ⟨L.rts[k], List.getElem_mem hlt, ?_⟩
     simp only [beq_iff_eq, Lay.endOf, uh HE] at ht ⊢
     omega
    have hb3 := z05 ((uh HB).trans (hb'.mono (by omega)))
    go_ret
    exact ⟨z04 hs.symm, hb3⟩
   ·have ht : ((L.endOf k : Int) == (s : Int)) = false := by assumption
    have hs : (lastN L.rts[k].path == s) = false := by
     simp only [beq_eq_false_iff_ne, Lay.endOf, uh HE, ne_eq] at ht ⊢
     omega
    exact ⟨⟨k + 1, by omega, by go_num, by rw [uh HA, uh HZ, hs]; rfl, (uh HB).trans (hb'.mono (by omega))⟩, by simp [intOf]; omega⟩
  ·have hs : L.endsB s = false := by rw [Lay.endsB, <- (uh HZ), List.take_of_length_le (by omega)]
   have hb3 := z05 (uh HB)
   go_wp2
   go_ret
   exact ⟨z04 hs.symm, hb3⟩
theorem z3o (p : List (Nat × Nat)) (s : Nat) : decide (0 < z1b (secs p) s) = has p s := by
 unfold z1b has
 rw [Bool.eq_iff_iff]
 simp only [decide_eq_true_eq, List.contains_iff_mem]
 constructor
 ·intro h
  have h : 0 < ((secs p).filter (fun y : Nat => ((y : Int) == (s : Int)))).length := by omega
  obtain ⟨x, hx⟩ := List.exists_mem_of_length_pos h
  simp only [List.mem_filter, beq_iff_eq] at hx
  have : x = s := by omega
  exact this ▸ hx.1
 ·intro h
  have : s ∈ (secs p).filter (fun y : Nat => ((y : Int) == (s : Int))) := by simp [List.mem_filter, h]
  have := List.length_pos_of_mem this
  omega
set_option maxHeartbeats 400000 in
theorem flanked_any (v : Value) (L : Lay) (s : Nat) (w : World) (h : RPlan w v L) :
  Calls Tryz.prog 169 #[v, .int .i64 s] w fun e w' => e = .returned (.bool (L.flankedB s)) /\ Below w.heap.size w w' := by
 obtain ⟨vh, vr, vt, rfl, -, hR, -⟩ := h
 obtain ⟨ao, cap, rfl, h1, h2, h3⟩ := SlAt.open hR
 clear hR
 unfold maxLen at h2
 go_enter Tryz.func169, Tryz.ntmps169
 go_wp2
 go_loopw [5] (fun i wr => ∃ k : Nat, k <= L.rts.length /\ i = .int .i64 k /\ (L.rts.take k).any (fun r => has r.flank s) = false ∧
   Below (w.heap.size + 1) (w.alloc (z0v L vh (.slice ao L.rts.length cap) vt)) wr) (fun i _ => L.rts.length - (intOf i).toNat)
 case atStart => exact ⟨0, Nat.zero_le _, rfl, rfl, Below.refl _ _⟩
 case round =>
  obtain ⟨k, hk, rfl, hz, hb⟩ := hrel
  have HZ := zh hz
  have HB := zh hb
  obtain ⟨q0, q1, q2, q3, q4, q5, qs⟩ := z15 hb
  clear hz
  by_cases hlt : k < L.rts.length
  ·have HA := zh (z2n (fun r => has r.flank s) L.rts k hlt)
   obtain ⟨g, off, hao, hg, cs, -, hC, hc⟩ := h3 k hlt
   subst hao
   obtain ⟨vp, vs, vf, vl, rfl, -, -, hF, -⟩ := hC
   have hc1 := hc 3 (by omega)
   rw [<- (z05 hb).cell (p := ⟨g, _, none⟩) hg] at hc1
   have HF := zh (Ints.below hF (z05 hb))
   obtain ⟨ao2, cap2, rfl, g1, g2, -⟩ := SlAt.open hF
   have HT := zh (z3o L.rts[k].flank s)
   clear hc h3 hF hb
   simp at hc1
   go_wp2_with (go_at_call 155; refine (z0m _ _ _ _ (uh HF)).mono ?_; rintro e w' ⟨rfl, rfl⟩)
   ·have ht : 0 < z1b (secs L.rts[k].flank) s := by assumption
    have hs := zh (show L.flankedB s = true by
     rw [Lay.flankedB, List.any_eq_true]
     exact ⟨L.rts[k], List.getElem_mem hlt, by rw [<- uh HT]; simpa using ht⟩)
    have hb3 := z05 (uh HB)
    go_ret
    exact ⟨z04 (uh hs).symm, hb3⟩
   ·have ht : z1b (secs L.rts[k].flank) s <= 0 := by assumption
    have hs : has L.rts[k].flank s = false := by rw [<- uh HT, decide_eq_false_iff_not]; omega
    exact ⟨⟨k + 1, by omega, by go_num, by rw [uh HA, uh HZ, hs]; rfl, uh HB⟩, by simp [intOf]; omega⟩
  ·have hs := zh (show L.flankedB s = false by rw [Lay.flankedB, <- (uh HZ), List.take_of_length_le (by omega)])
   have hb3 := z05 (uh HB)
   clear hb
   go_wp2
   go_ret
   exact ⟨z04 (uh hs).symm, hb3⟩
def optZ : Option Nat -> Int
 | none => -1
 | some s => s
theorem tn_eq (L : Lay) (t : Nat) (h : t < L.tns.length) : L.tn t = L.tns[t] := by
 simp [Lay.tn, List.getD_eq_getElem?_getD, List.getElem?_eq_getElem h]
theorem getD_eq (l : List Nat) (t : Nat) (h : t < l.length) : l.getD t 0 = l[t] := by
 simp [List.getD_eq_getElem?_getD, List.getElem?_eq_getElem h]
set_option maxHeartbeats 400000 in
theorem holds_any (v va : Value) (L : Lay) (at_ : List Nat) (t : Nat) (w : World) (h : RPlan w v L) (ha : Ints w va at_) (ht : t < at_.length) (hl : at_.length = L.tns.length) (hp : L.Paths) (hj : L.Jnys) :
  Calls Tryz.prog 154 #[v, va, .int .i64 t] w fun e w' => e = .returned (.int .i64 (optZ (L.holds at_ t))) /\ Below w.heap.size w w' := by
 have HR := zh h
 obtain ⟨vh, vr, vt, rfl, -, -, hT⟩ := h
 obtain ⟨ao, cap, rfl, h1, h2, h3⟩ := SlAt.open hT
 obtain ⟨g, off, rfl, hg, cs, -, hC, hc⟩ := h3 t (by omega)
 obtain ⟨vj, rfl, hJ⟩ := hC
 have hc0 := hc 0 (by omega)
 have hc1 := hc 1 (by omega)
 obtain ⟨aoj, capj, rfl, j1, j2, j3⟩ := SlAt.open hJ
 obtain ⟨aoa, capa, rfl, a1, a2, a3⟩ := SlAt.open ha
 obtain ⟨ga, offa, rfl, hga, cs2, -, hC2, hd⟩ := a3 t ht
 unfold CInt at hC2
 subst hC2
 have hd0 := hd 0 (by omega)
 have htL : t < L.tns.length := by omega
 have hspec : L.holds at_ t = if L.tns[t].jny.length <= at_[t] then none else if at_[t] = 0 then some L.tns[t].start else some (L.endOf (L.tns[t].jny.getD (at_[t] - 1) 0)) := by
  simp only [Lay.holds, Lay.doneB, tn_eq L t htL, getD_eq at_ t ht, decide_eq_true_eq]
 rw [hspec]
 have hjn : ∀ r, r ∈ L.tns[t].jny -> r < L.rts.length := hj _ (List.getElem_mem htL)
 clear hc hd a3 h3 hT hJ ha hspec hj
 generalize hzz : optZ _ = z
 unfold maxLen at h2 j2 a2
 generalize L.tns[t].jny = jl at *
 generalize L.tns[t].start = st at *
 generalize at_[t] = n at *
 simp at hc0 hc1 hd0
 by_cases hdone : jl.length <= n
 ·have HZ := zh (show z = -1 by rw [<- hzz, if_pos hdone]; rfl)
  clear hzz
  go_enter Tryz.func154, Tryz.ntmps154
  go_wp2
  go_ret
  exact ⟨z11 (uh HZ).symm, z02 _ _⟩
 by_cases hz : n = 0
 ·have HZ := zh (show z = st by rw [<- hzz, if_neg hdone, if_pos hz]; rfl)
  have hz' : ((n : Int) == 0) = true := by simp; omega
  have hdone' : n < jl.length := by omega
  clear hzz hz hdone
  go_enter Tryz.func154, Tryz.ntmps154
  go_wp2
  go_ret
  exact ⟨z11 (uh HZ).symm, z02 _ _⟩
 ·obtain ⟨m, rfl⟩ : ∃ m, n = m + 1 := ⟨n - 1, by omega⟩
  have hk : m < jl.length := by omega
  obtain ⟨gj, offj, rfl, hgj, cs3, -, hC3, he⟩ := j3 m hk
  unfold CInt at hC3
  subst hC3
  have he0 := he 0 (by omega)
  simp at he0
  have hjr := hjn _ (List.getElem_mem hk)
  have HZ := zh (show z = L.endOf jl[m] by rw [<- hzz, if_neg hdone, if_neg hz, Nat.add_sub_cancel, getD_eq jl m hk]; rfl)
  clear hzz
  generalize jl[m] = r at *
  have hz' : (((m + 1 : Nat) : Int) == 0) = false := by simp; omega
  have hdone' : m + 1 < jl.length := by omega
  clear he j3 hjn hdone hz
  simp only [Int.natCast_add, Int.natCast_one] at hd0 hz'
  have hlo : (0 : Int) <= (m : Int) := by omega
  have hhi : (m : Int) < jl.length := by omega
  go_enter Tryz.func154, Tryz.ntmps154
  go_wp2
  have hw1 : IntKind.i64.wrap (m : Int) = m := Go.IntWalk.i64_in _ (by omega)
  go_region_with (go_at_call 170; refine (End_any _ L r _ ((uh HR).below (by exact (z02 _ _).drew)) hjr hp).mono ?_; rintro e w' ⟨rfl, hb'⟩)
  all_goals
   have hb3 := ((z02 w (z0v L vh vr (.slice (some ⟨g, off, none⟩) L.tns.length cap))).drew).trans (hb'.mono (B' := w.heap.size) (by simp))
   go_wp2
   go_ret
   exact ⟨z11 (uh HZ).symm, hb3⟩
theorem all_drop_true {α : Type} (p : α -> Bool) (l : List α) (n : Nat) (h : ∀ q (hq : q < l.length), n <= q -> p l[q] = true) : (l.drop n).all p = true := by
 rw [List.all_eq_true]
 intro x hx
 obtain ⟨i, hi, rfl⟩ := List.getElem_of_mem hx
 rw [List.getElem_drop]
 exact h _ _ (by omega)
theorem all_drop_false {α : Type} (p : α -> Bool) (l : List α) (n q : Nat) (hq : q < l.length) (hn : n <= q) (h : p l[q] = false) : (l.drop n).all p = false := by
 rw [List.all_eq_false]
 refine ⟨l[q], ?_, by simp [h]⟩
 rw [List.mem_iff_getElem]
 exact ⟨q - n, by simp; omega, by rw [List.getElem_drop]; congr 1; omega⟩
theorem all_range_true (p : Nat -> Bool) (n : Nat) (h : ∀ o, o < n -> p o = true) : (List.range n).all p = true := by
 rw [List.all_eq_true]; intro x hx; exact h x (List.mem_range.1 hx)
theorem all_range_false (p : Nat -> Bool) (n o : Nat) (ho : o < n) (h : p o = false) : (List.range n).all p = false := by
 rw [List.all_eq_false]; exact ⟨o, List.mem_range.2 ho, by simp [h]⟩
theorem times_hits (p : List Nat) (o : Option Nat) : decide (0 < z1b p (optZ o)) = hits p o := by
 cases o with
 | none =>
  have : z1b p (optZ none) = 0 := by
   unfold z1b optZ
   have : p.filter (fun y : Nat => ((y : Int) == (-1 : Int))) = [] := by
    rw [List.filter_eq_nil_iff]; intro y _; simp
   rw [this]; rfl
  rw [this]; rfl
 | some s =>
  have := z3o (p.map (fun x => (x, 0))) s
  have e : secs (p.map (fun x => (x, 0))) = p := by simp [secs, Function.comp_def]
  rw [has, e] at this
  exact this
set_option maxHeartbeats 1000000 in
theorem runs_any (v va : Value) (L : Lay) (at_ : List Nat) (t : Nat) (w : World) (h : RPlan w v L) (ha : Ints w va at_) (ht : t < at_.length) (hl : at_.length = L.tns.length) (hp : L.Paths) (hj : L.Jnys) :
  Calls Tryz.prog 107 #[v, va, .int .i64 t] w fun e w' => e = .returned (.bool (L.runsB at_ t)) /\ Below w.heap.size w w' := by
 have HR := zh h
 have HA := zh ha
 obtain ⟨vh, vr, vt, rfl, -, hRt, hT⟩ := h
 obtain ⟨ao, cap, rfl, h1, h2, h3⟩ := SlAt.open hT
 obtain ⟨g, off, rfl, hg, cs, -, hC, hc⟩ := h3 t (by omega)
 obtain ⟨vj, rfl, hJ⟩ := hC
 have hc1 := hc 1 (by omega)
 obtain ⟨aoj, capj, rfl, j1, j2, j3⟩ := SlAt.open hJ
 obtain ⟨aoa, capa, rfl, a1, a2, a3⟩ := SlAt.open ha
 obtain ⟨ga, offa, rfl, hga, cs2, -, hC2, hd⟩ := a3 t ht
 unfold CInt at hC2
 subst hC2
 have hd0 := hd 0 (by omega)
 obtain ⟨aor, capr, rfl, r1, r2, r3⟩ := SlAt.open hRt
 have htL : t < L.tns.length := by omega
 have hspec : L.runsB at_ t = (L.tns[t].jny.drop at_[t]).all (fun r => (List.range at_.length).all (fun o => o == t || !hits (secs (L.rt r).path) (L.holds at_ o))) := by
  simp only [Lay.runsB, tn_eq L t htL, getD_eq at_ t ht]
 rw [hspec]
 have hjn : ∀ r, r ∈ L.tns[t].jny -> r < L.rts.length := hj _ (List.getElem_mem htL)
 have HJ := zh hj
 have HL := zh hl
 have HP := zh hp
 clear hc hd a3 h3 hT hJ ha hspec hj hRt hp
 unfold maxLen at h2 j2 a2 r2
 generalize L.tns[t].jny = jl at *
 generalize at_[t] = n at *
 generalize hzz : List.all _ _ = z
 have HZ := zh hzz
 simp at hc1 hd0
 clear hzz hl
 go_enter Tryz.func107, Tryz.ntmps107
 go_wp2
 go_loopw [8] (fun i wr => ∃ q : Nat, i = .int .i64 q /\ n <= q /\ (q = n \/ q <= jl.length) ∧
   (∀ q' (hq : q' < jl.length), n <= q' -> q' < q -> (List.range at_.length).all (fun o => o == t || !hits (secs (L.rt jl[q']).path) (L.holds at_ o)) = true) ∧
   Below (w.heap.size + 1) (w.alloc (z0v L vh (.slice aor L.rts.length capr) (.slice (some ⟨g, off, none⟩) L.tns.length cap))) wr) (fun i _ => jl.length - (intOf i).toNat)
 case atStart => exact ⟨n, rfl, Nat.le_refl _, .inl rfl, fun q' _ h1 h2 => by omega, Below.refl _ _⟩
 case round =>
  obtain ⟨q, rfl, hnq, hq, hz, hb⟩ := hrel
  have HK := zh hq
  have HQ := zh hz
  have HB := zh hb
  obtain ⟨q0, q1, q2, q3, q4, q5, qs⟩ := z15 hb
  clear hz hq
  by_cases hlt : q < jl.length
  ·obtain ⟨gj, offj, hao, hgj, cs3, -, hC3, he⟩ := j3 q hlt
   subst hao
   unfold CInt at hC3
   subst hC3
   have he0 := he 0 (by omega)
   rw [<- (z05 hb).cell (p := ⟨gj, _, none⟩) hgj] at he0
   have hjr := hjn _ (List.getElem_mem hlt)
   obtain ⟨gr, offr, hao, hgr, cs4, -, hC4, hf⟩ := r3 _ hjr
   subst hao
   obtain ⟨vp, vs, vf, vl, rfl, hPt, -, -, -⟩ := hC4
   have hf1 := hf 1 (by omega)
   rw [<- (z05 hb).cell (p := ⟨gr, _, none⟩) hgr] at hf1
   have HPT := zh (show Ints w vp _ from hPt)
   obtain ⟨aop, capp, rfl, p1, p2, -⟩ := SlAt.open hPt
   have HRT := zh (rt_eq L _ hjr)
   clear hPt hf he j3 r3 hb
   simp at he0 hf1
   generalize hrr : jl[q] = r at *
   have HRR := zh hrr
   clear hrr
   go_wp2
   go_quiet (fail)
   go_wp2
   go_loopw [10] (fun i wr => ∃ o : Nat, i = .int .i64 o /\ o <= at_.length ∧
     (∀ o', o' < o -> (o' == t || !hits (secs (L.rt r).path) (L.holds at_ o')) = true) ∧
     Below (w.heap.size + 1) (w.alloc (z0v L vh (.slice (some ⟨gr, offr, none⟩) L.rts.length capr) (.slice (some ⟨g, off, none⟩) L.tns.length cap))) wr) (fun i _ => at_.length - (intOf i).toNat)
   case atStart => exact ⟨0, rfl, Nat.zero_le _, fun o' h => by omega, below_drewN (uh HB) _⟩
   case round =>
    clear q0 q1 q2 q3 q4 q5 qs he0 hf1 HB
    obtain ⟨o, rfl, ho, hz, hb⟩ := hrel
    have HO := zh hz
    have HB := zh hb
    obtain ⟨q0, q1, q2, q3, q4, q5, qs⟩ := z15 hb
    clear hz hb
    by_cases hol : o < at_.length
    ·have HT := zh (times_hits (secs L.rts[r].path) (L.holds at_ o))
     rw [<- uh HRT] at HT
     by_cases hot : o = t
     ·have hot' : ((o : Int) != (t : Int)) = false := by simp; omega
      have HOT := zh hot
      clear hot
      go_wp2_with (first
       | (go_at_call 154; refine (holds_any _ _ L at_ o _ ((uh HR).below (z05 (uh HB))) ((uh HA).below (z05 (uh HB))) hol (uh HL) (uh HP) (uh HJ)).mono ?_; rintro e w' ⟨rfl, hb'⟩)
       | (go_at_call 155; refine (z0m _ _ _ _ ((uh HPT).below ((z05 (uh HB)).trans (hb'.mono (Nat.le_of_lt qs))))).mono ?_; rintro e w' ⟨rfl, rfl⟩))
      have hb4 := (uh HB).trans (hb'.mono (B' := w.heap.size + 1) qs)
      refine ⟨⟨o + 1, by go_num, by omega, fun o' h => ?_, hb4⟩, by simp [intOf]; omega⟩
      rcases Nat.lt_or_ge o' o with h' | h'
      ·exact uh HO o' h'
      ·obtain rfl : o' = t := by have := uh HOT; omega
       simp
     ·have hot' : ((o : Int) != (t : Int)) = true := by simp; omega
      have HOT := zh hot
      clear hot
      go_wp2_with (first
       | (go_at_call 154; refine (holds_any _ _ L at_ o _ ((uh HR).below (z05 (uh HB))) ((uh HA).below (z05 (uh HB))) hol (uh HL) (uh HP) (uh HJ)).mono ?_; rintro e w' ⟨rfl, hb'⟩)
       | (go_at_call 155; refine (z0m _ _ _ _ ((uh HPT).below ((z05 (uh HB)).trans (hb'.mono (Nat.le_of_lt qs))))).mono ?_; rintro e w' ⟨rfl, rfl⟩))
      ·have hti : 0 < z1b (secs L.rts[r].path) (optZ (L.holds at_ o)) := by assumption
       have hs := zh (show z = false by
        rw [<- uh HZ]
        refine all_drop_false _ _ _ q hlt hnq ?_
        refine all_range_false _ _ o hol ?_
        rw [uh HRR, <- uh HT, uh HRT]
        simp [uh HOT, hti])
       have hb3 := z05 ((uh HB).trans (hb'.mono (B' := w.heap.size + 1) qs))
       go_ret
       exact ⟨z04 (uh hs).symm, hb3⟩
      ·have hti : z1b (secs L.rts[r].path) (optZ (L.holds at_ o)) <= 0 := by assumption
       have hb4 := (uh HB).trans (hb'.mono (B' := w.heap.size + 1) qs)
       refine ⟨⟨o + 1, by go_num, by omega, fun o' h => ?_, hb4⟩, by simp [intOf]; omega⟩
       rcases Nat.lt_or_ge o' o with h' | h'
       ·exact uh HO o' h'
       ·obtain rfl : o' = o := by omega
        rw [<- uh HT, uh HRT]
        simp; omega
    ·go_wp2
     have hb4 := uh HB
     refine ⟨⟨q + 1, by go_num, by omega, .inr (by omega), fun q' hq' h1' h2' => ?_, hb4⟩, by simp [intOf]; omega⟩
     rcases Nat.lt_or_ge q' q with h' | h'
     ·exact uh HQ q' hq' h1' h'
     ·obtain rfl : q' = q := by omega
      rw [uh HRR]
      exact all_range_true _ _ (fun o' ho' => uh HO o' (by omega))
  ·have hs := zh (show z = true by
    rw [<- uh HZ]
    exact all_drop_true _ _ _ (fun q' hq' hn => uh HQ q' hq' hn (by omega)))
   have hb3 := z05 (uh HB)
   go_wp2
   go_ret
   exact ⟨z04 (uh hs).symm, hb3⟩
theorem swT_snoc (f : Nat -> List Nat) (k : Nat) : (List.range (k + 1)).flatMap f = (List.range k).flatMap f ++ f k := by
 rw [List.range_succ, List.flatMap_append]; simp
theorem z1f (a b : List Nat) : z09 (a ++ b) = z09 a ++ z09 b := by
 apply ByteArray.ext
 simp [z09]
theorem natsStr_nil : z09 [] = ⟨#[]⟩ := rfl
theorem app_nil (p : ByteArray) : p ++ (⟨#[]⟩ : ByteArray) = p := by
 apply ByteArray.ext
 simp
theorem flat_le (f : Nat -> List Nat) (h : ∀ s, (f s).length <= 1) (k : Nat) : ((List.range k).flatMap f).length <= k := by
 induction k with
 | zero => simp
 | succ k ih => rw [swT_snoc]; have := h k; simp only [List.length_append]; omega
set_option maxHeartbeats 1000000 in
theorem rSwitches_any (g : Nat) (B : RBx) (w : World) (h : RBoxAt w g B) (hl : B.L.sw.length <= 1000) (hw : B.wanted.length = B.L.sw.length) (hf : B.failed.length = B.L.sw.length) :
  Calls Tryz.prog 68 #[.pointer (some ⟨g, 0, none⟩)] w fun e w' => e = .returned (.string (z09 B.switchesT)) /\ Below w.heap.size w w' := by
 obtain ⟨vh, vr, vt, vl, vw, vf, vd, va, vq, hB, hH, -, -, -, hW, hF, -⟩ := h
 obtain ⟨ao, cap, rfl, -, hm, h3⟩ := SlAt.open hH
 obtain ⟨aw, cw, rfl, -, hmw, h5⟩ := SlAt.open hW
 obtain ⟨af, cf, rfl, -, hmf, h7⟩ := SlAt.open hF
 have HT := zh (show ∀ k (h : k < B.L.sw.length) (hf : k < B.failed.length) (hw : k < B.wanted.length), B.swT k = if B.L.sw[k] then [if B.failed[k] then 120 else B.wanted[k]] else [] by
  intro k h hf hw
  have h1 : B.L.sw.getD k false = B.L.sw[k] := by rw [List.getD_eq_getElem?_getD, List.getElem?_eq_getElem h]; rfl
  have h2 : B.failed.getD k false = B.failed[k] := by rw [List.getD_eq_getElem?_getD, List.getElem?_eq_getElem ‹_›]; rfl
  have h3 : B.wanted.getD k 0 = B.wanted[k] := by rw [List.getD_eq_getElem?_getD, List.getElem?_eq_getElem ‹_›]; rfl
  unfold RBx.swT
  rw [h1, h2, h3])
 have hle := flat_le B.swT (by intro s; unfold RBx.swT; split <;> simp)
 obtain ⟨⟨q3, -, -, -, q7, q8, -⟩, -, qg⟩ := box12 hB
 unfold RBx.switchesT
 generalize B.swT = f at *
 generalize B.L.sw = l at *
 generalize B.wanted = wa at *
 generalize B.failed = fa at *
 unfold maxLen at hm hmw hmf
 clear hH hW hF hB
 have kc := Tryz.oneStr
 have HLE := zh hle
 clear hle
 go_enter Tryz.func68, Tryz.ntmps68
 go_wp2
 go_loopw [3, 4] (fun d i wr => ∃ k : Nat, k <= l.length /\ i = .int .i64 k /\ d = .string (z09 ((List.range k).flatMap f)) /\ Below w.heap.size w wr) (fun _ i _ => l.length - (intOf i).toNat)
 case atStart => exact ⟨0, Nat.zero_le _, rfl, rfl, Below.refl _ _⟩
 case round =>
  obtain ⟨k, hk, rfl, rfl, hb⟩ := hrel
  have hsz := z0n ((List.range k).flatMap f)
  have hle := uh HLE k
  rw [<- hsz] at hle
  clear hsz
  obtain ⟨p, hp⟩ : ∃ p, p = z09 ((List.range k).flatMap f) := ⟨_, rfl⟩
  rw [<- hp] at hle ⊢
  have HP := zh hp
  rw [<- hb.cell (p := ⟨g, 3, none⟩) qg] at q3
  rw [<- hb.cell (p := ⟨g, 7, none⟩) qg] at q7
  rw [<- hb.cell (p := ⟨g, 8, none⟩) qg] at q8
  have HB := zh hb
  have hbs := hb.size
  clear hp
  by_cases hlt : k < l.length
  ·obtain ⟨gl, off, hao, hg, cs, -, hC, hc⟩ := h3 k hlt
   obtain ⟨gw, offw, haw, hgw, csw, -, hCw, hcw⟩ := h5 k (by omega)
   obtain ⟨gf, offf, haf, hgf, csf, -, hCf, hcf⟩ := h7 k (by omega)
   subst hao haw haf
   unfold CBool at hC hCf
   unfold CByte at hCw
   subst hC hCw hCf
   have hc0 := hc 0 (by omega)
   have hw0 := hcw 0 (by omega)
   have hf0 := hcf 0 (by omega)
   rw [<- hb.cell (p := ⟨gl, _, none⟩) hg] at hc0
   rw [<- hb.cell (p := ⟨gw, _, none⟩) hgw] at hw0
   rw [<- hb.cell (p := ⟨gf, _, none⟩) hgf] at hf0
   simp at hc0 hw0 hf0
   have HS := zh (show z09 ((List.range (k + 1)).flatMap f) = p ++ z09 (f k) by
    rw [uh HP, swT_snoc, z1f])
   have hkf : k < fa.length := by omega
   have hkw : k < wa.length := by omega
   rw [uh HT k hlt hkf hkw] at HS
   have e1 : (k : Int) < l.length := by omega
   have e2 : (k : Int) < wa.length := by omega
   have e3 : (k : Int) < fa.length := by omega
   clear hc hcw hcf h3 h5 h7 hb
   generalize l[k] = b1 at *
   generalize fa[k] = b2 at *
   generalize wa[k] = x at *
   cases b1 with
   | false =>
    go_wp2
    exact ⟨⟨k + 1, by omega, by go_num, by rw [uh HS]; simp [natsStr_nil, app_nil], uh HB⟩, by simp [intOf]; omega⟩
   | true =>
    cases b2 with
    | true =>
     go_wp2
     exact ⟨⟨k + 1, by omega, by go_num, by rw [uh HS]; rfl, uh HB⟩, by simp [intOf]; omega⟩
    | false =>
     go_wp2
     exact ⟨⟨k + 1, by omega, by go_num, by rw [uh HS]; rfl, (uh HB).alloc hbs _⟩, by simp [intOf]; omega⟩
  ·obtain rfl : k = l.length := by omega
   clear h3 h5 h7 hb
   go_wp2
   go_ret
   exact ⟨by first | (rw [uh HP]; done) | (rw [<- uh HP]; rfl), uh HB⟩
theorem contains_drop (P : List Nat) (n s : Nat) : (P.drop n).contains s = true ↔ ∃ j, ∃ h : j < P.length, n <= j /\ P[j] = s := by
 rw [List.contains_iff_mem, List.mem_iff_getElem]
 constructor
 ·rintro ⟨i, hi, he⟩
  rw [List.length_drop] at hi
  rw [List.getElem_drop] at he
  exact ⟨n + i, by omega, by omega, he⟩
 ·rintro ⟨j, hj, hn, he⟩
  refine ⟨j - n, by rw [List.length_drop]; omega, ?_⟩
  rw [List.getElem_drop]
  simp only [show n + (j - n) = j by omega]
  exact he
theorem z3p (p : Nat -> Bool) (n : Nat) (h : ∀ k, k < n -> p k = false) : (List.range n).find? p = none := by
 rw [List.find?_eq_none]; intro x hx; rw [h x (List.mem_range.1 hx)]; simp
theorem rfind_some (p : Nat -> Bool) (n k : Nat) (hk : k < n) (h : ∀ j, j < k -> p j = false) (hp : p k = true) : (List.range n).find? p = some k := by
 rw [List.find?_eq_some_iff_append]
 refine ⟨hp, List.range k, (List.range (n - k - 1)).map (· + (k + 1)), ?_, ?_⟩
 ·have e : n = k + (1 + (n - k - 1)) := by omega
  conv => lhs; rw [e]
  rw [List.range_add, List.range_add]
  simp [List.range_one, Nat.add_comm, Nat.add_left_comm, Function.comp_def]
 ·intro x hx; rw [h x (List.mem_range.1 hx)]; rfl
set_option maxHeartbeats 1000000 in
theorem rlocked_any (g : Nat) (B : RBx) (s : Nat) (w : World) (h : RBoxAt w g B) (hl : B.lines.length <= B.L.rts.length) (hr : B.L.rts.length <= 1000) (hgo : ∀ x, x ∈ B.lines -> x.gone <= 1000) :
  Calls Tryz.prog 109 #[.pointer (some ⟨g, 0, none⟩), .int .i64 s] w fun e w' => e = .returned (.int .i64 (optI (B.lockedBy s))) /\ w' = w := by
 obtain ⟨vh, vr, vt, vl, vw, vf, vd, va, vq, hB, -, hR, -, hL, -⟩ := h
 obtain ⟨ar, cr, rfl, -, hmr, r3⟩ := SlAt.open hR
 obtain ⟨al, cl, rfl, -, hml, l3⟩ := SlAt.open hL
 obtain ⟨⟨-, q4, -, q6, -⟩, -, qg⟩ := box12 hB
 have HK := zh (show ∀ k (h : k < B.lines.length) (hr : k < B.L.rts.length), B.lockB s k = (B.lines[k].ph != 46 && ((secs B.L.rts[k].path).drop B.lines[k].gone).contains s) by
  intro k h hr
  have h1 : B.line k = B.lines[k] := by unfold RBx.line; rw [List.getD_eq_getElem?_getD, List.getElem?_eq_getElem h]; rfl
  unfold RBx.lockB
  rw [h1, rt_eq B.L k hr])
 unfold RBx.lockedBy
 generalize hlb : B.lockB s = f at *
 clear hlb
 generalize B.lines = ls at *
 generalize B.L.rts = rs at *
 unfold maxLen at hmr hml
 obtain ⟨Z, hZ⟩ : ∃ Z, Z = optI ((List.range ls.length).find? f) := ⟨_, rfl⟩
 rw [<- hZ]
 have HZ := zh hZ
 clear hR hL hB hZ
 go_enter Tryz.func109, Tryz.ntmps109
 go_wp2
 go_loopw [5] (fun i wr => ∃ k : Nat, k <= ls.length /\ i = .int .i64 k /\ (∀ j, j < k -> f j = false) /\ wr = w) (fun i _ => ls.length - (intOf i).toNat)
 case atStart => exact ⟨0, Nat.zero_le _, rfl, fun j h => by omega, rfl⟩
 case round =>
  obtain ⟨k, hk, rfl, hno, rfl⟩ := hrel
  have HNO := zh hno
  clear hno
  by_cases hlt : k < ls.length
  ·obtain ⟨gl, ol, hal, hgl, cs, -, hC, hc⟩ := l3 k hlt
   obtain ⟨gr, or_, har, hgr, csr, -, hCr, hcr⟩ := r3 k (by omega)
   subst hal har
   obtain ⟨vm, hcs, -⟩ := hC
   obtain ⟨vp, vs, vfl, vg, hcsr, hP, -⟩ := hCr
   subst hcs hcsr
   have c0 := hc 0 (by omega)
   have c4 := hc 4 (by omega)
   have d1 := hcr 1 (by omega)
   simp at c0 c4 d1
   obtain ⟨ap, cp, rfl, hpc, hmp, p3⟩ := SlAt.open hP
   unfold maxLen at hmp
   have hkr : k < rs.length := by omega
   have HF := zh (uh HK k hlt hkr)
   have e1 : (k : Int) < ls.length := by omega
   have e2 : (k : Int) < rs.length := by omega
   have hgn := hgo _ (List.getElem_mem hlt)
   clear hc hcr hP r3 l3 hgo
   generalize secs rs[k].path = P at *
   generalize ls[k].ph = ph at *
   generalize ls[k].gone = gn at *
   have hcd := zh (contains_drop P gn s)
   go_wp2
   go_loopw [7] (fun i wz => ∃ m : Nat, i = .int .i64 m /\ gn <= m /\ m <= P.length + 1000 /\ (∀ j (h : j < P.length), gn <= j -> j < m -> ph ≠ 46 -> P[j] ≠ s) /\ wz = wr) (fun i _ => P.length - (intOf i).toNat)
   case atStart => exact ⟨gn, rfl, Nat.le_refl _, by omega, fun j h h1 h2 => by omega, rfl⟩
   case round =>
    obtain ⟨m, rfl, hgm, hm62, hno, rfl⟩ := hrel
    have HN2 := zh hno
    clear hno
    by_cases hm : m < P.length
    ·obtain ⟨gp, op, hap, hgp, csp, -, hCp, hcp⟩ := p3 m hm
     subst hap
     unfold CInt at hCp
     subst hCp
     have x0 := hcp 0 (by omega)
     simp at x0
     have e3 : (m : Int) < P.length := by omega
     have e4 : (0 : Int) <= m := by omega
     have HNN := zh (show (ph ≠ 46 -> P[m] ≠ s) -> ∀ j (h : j < P.length), gn <= j -> j < m + 1 -> ph ≠ 46 -> P[j] ≠ s by
      intro hx j h h1 h2 h3
      by_cases hj : j < m
      ·exact uh HN2 j h h1 hj h3
      ·obtain rfl : j = m := by omega
       exact hx h3)
     have HFD := zh (show gn <= m -> ph ≠ 46 -> P[m] = s -> f k = true by
      intro h0 h1 h2
      rw [uh HF, Bool.and_eq_true]
      exact ⟨by simp [h1], (uh hcd).2 ⟨m, hm, h0, h2⟩⟩)
     clear hcp p3
     generalize P[m] = x at *
     by_cases hph : ph = 46
     ·have b1 : ((ph : Int) != 46) = false := by simp [hph]
      go_wp2
      exact ⟨⟨m + 1, by go_num, by omega, by omega, uh HNN (fun h => absurd hph h), by trivial⟩, by simp [intOf]; omega⟩
     ·have b1 : ((ph : Int) != 46) = true := by simp; omega
      by_cases hxs : x = s
      ·have b2 : ((x : Int) == s) = true := by simp [hxs]
       have HZ2 := zh (show Z = k by
        rw [uh HZ, rfind_some f _ k hlt (uh HNO) (uh HFD hgm hph hxs)]; rfl)
       go_wp2
       go_ret
       exact ⟨z11 (uh HZ2).symm, rfl⟩
      ·have b2 : ((x : Int) == s) = false := by simp; omega
       go_wp2
       exact ⟨⟨m + 1, by go_num, by omega, by omega, uh HNN (fun _ => hxs), by trivial⟩, by simp [intOf]; omega⟩
    ·have HF0 := zh (show f k = false by
      rw [uh HF]
      by_cases hph : ph = 46
      ·simp [hph]
      ·have : (P.drop gn).contains s = false := by
        rw [Bool.eq_false_iff]
        intro h
        obtain ⟨j, hj, h1, h2⟩ := (uh hcd).1 h
        exact uh HN2 j hj h1 (by omega) hph h2
       rw [this]; simp)
     have e3 : (P.length : Int) <= m := by omega
     clear p3
     go_wp2
     refine ⟨⟨k + 1, by omega, by go_num, fun j hj => ?_, by trivial⟩, by simp [intOf]; omega⟩
     by_cases hj' : j < k
     ·exact uh HNO j hj'
     ·obtain rfl : j = k := by omega
      exact uh HF0
  ·obtain rfl : k = ls.length := by omega
   have HZ2 := zh (show Z = -1 by rw [uh HZ, z3p f _ (uh HNO)]; rfl)
   clear r3 l3 hgo
   go_wp2
   go_ret
   exact ⟨z11 (uh HZ2).symm, rfl⟩
end Go.Proofs.YtkbpocecbcaiiaaGreatDoor
