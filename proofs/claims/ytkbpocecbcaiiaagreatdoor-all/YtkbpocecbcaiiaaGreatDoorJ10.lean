import Derived.Test.YtkbpocecbcaiiaaGreatDoorJ9
namespace Go.Proofs.YtkbpocecbcaiiaaGreatDoor
open Go.RowKit
def cntT (l : List Bool) : Nat := (l.filter (· == true)).length
def Lay.posR (L : Lay) (i : Nat) : Nat := L.sw.length + cntT (L.sw.take i)
def okO (s : ByteArray) (i : Nat) : Bool := pk s i == 48 || pk s i == 49
def isRep (c : Nat) : Bool := c == 43 || c == 45 || c == 63
def Lay.okR (L : Lay) (s : ByteArray) (i : Nat) : Bool := !L.sw.getD i false || isRep (pk s (L.posR i))
def Lay.okB (L : Lay) (s : ByteArray) (i : Nat) : Bool := okO s i && L.okR s i
def Lay.okS (L : Lay) (s : ByteArray) : Bool := (List.range L.sw.length).all (L.okB s)
def Lay.bgn (L : Lay) : Nat := L.sw.length + cntT L.sw
def Lay.okP (L : Lay) (s : ByteArray) (j : Nat) : Bool := L.cmdB (pk s (L.bgn + 2 * j)) (pk s (L.bgn + 2 * j + 1))
def Lay.okC (L : Lay) (s : ByteArray) : Bool := decide ((s.size - L.bgn) % 2 = 0) && (List.range ((s.size - L.bgn) / 2)).all (L.okP s)
def Lay.frameB (L : Lay) (s : ByteArray) : Bool := decide (s.size <= 64) && L.okS s && L.okC s
def Lay.repF (L : Lay) (s : ByteArray) (i : Nat) : Nat := if L.sw.getD i false then pk s (L.posR i) else 0
def Lay.frOf (L : Lay) (s : ByteArray) : Fr := ⟨(List.range L.sw.length).map (fun i => pk s i == 49), (List.range L.sw.length).map (L.repF s), s.extract L.bgn s.size⟩
def FShape (v : Value) : Prop := ∃ (a1 a2 : Option Addr) (n1 n2 c1 c2 : Nat) (t : ByteArray), v = .agg #[.slice a1 n1 c1, .slice a2 n2 c2, .string t]
def zeroFr : Obj := .cells #[.slice none 0 0, .slice none 0 0, .string ⟨#[]⟩] 163
def frBox (vo vp : Value) (t : ByteArray) : Obj := .cells #[vo, vp, .string t] 163
def FMid (w wr : World) (vo vp : Value) (t : ByteArray) : Prop :=
 wr.heap[w.heap.size]? = some zeroFr /\ wr.heap[w.heap.size + 1]? = some (frBox vo vp t) /\ Below w.heap.size w wr
theorem FMid.append {w wr w2 : World} {vo vp v : Value} {t : ByteArray} {e : TypeId} {size n : Nat} {xs : List Value} {o : Obj} (h : FMid w wr vo vp t) (hown : wr.ownsRow (w.heap.size + 2) e size v n xs)
  (hg : (wr.alloc o).grownBy w2 v.ownBlock) (h1 : e ≠ 163) : FMid w w2 vo vp t :=
 ⟨(z07 hown hg h1 _ _ _ h.1).trans h.1, (z07 hown hg h1 _ _ _ h.2.1).trans h.2.1,
  (h.2.2.alloc h.2.2.size o).grown hg (by have := h.2.2.size; simp; omega) (fun k hk => by have := (hown.lt k hk).1; omega)⟩
theorem FMid.typed {w wr : World} {vo vp : Value} {t : ByteArray} (h : FMid w wr vo vp t) : Typed wr (w.heap.size + 1) 163 := ⟨_, _, h.2.1⟩
theorem FMid.store {w wr : World} {vo vp : Value} {t : ByteArray} (h : FMid w wr vo vp t) (u : Value) (t' : ByteArray) :
  FMid w (wr.setCell ⟨w.heap.size + 1, 0, none⟩ u) u vp t /\ FMid w (wr.setCell ⟨w.heap.size + 1, 1, none⟩ u) vo u t /\ FMid w (wr.setCell ⟨w.heap.size + 1, 2, none⟩ (.string t')) vo vp t' := by
 have hz : ∀ j u, (wr.setCell ⟨w.heap.size + 1, j, none⟩ u).heap[w.heap.size]? = some zeroFr := fun j u => by
  rw [Below.heap_setCell _ _ _ _ (by simp)]; exact h.1
 have hb : ∀ j u, Below w.heap.size w (wr.setCell ⟨w.heap.size + 1, j, none⟩ u) := fun j u => h.2.2.setCell (p := ⟨w.heap.size + 1, j, none⟩) (by simp) u
 exact ⟨⟨hz 0 u, z08 u h.2.1, hb 0 u⟩, ⟨hz 1 u, z08 u h.2.1, hb 1 u⟩, ⟨hz 2 _, z08 _ h.2.1, hb 2 _⟩⟩
theorem cntT_succ (l : List Bool) (k : Nat) (h : k < l.length) : cntT (l.take (k + 1)) = cntT (l.take k) + if l[k] then 1 else 0 := by
 unfold cntT
 rw [List.take_succ_eq_append_getElem h, List.filter_append, List.length_append]
 cases l[k] <;> rfl
theorem FMid.below {w wr w2 : World} {vo vp : Value} {t : ByteArray} (h : FMid w wr vo vp t) (hb : Below wr.heap.size wr w2) : FMid w w2 vo vp t :=
 ⟨(hb.block _ (z0f h.1)).trans h.1, (hb.block _ (z0f h.2.1)).trans h.2.1, h.2.2.trans (hb.mono h.2.2.size)⟩
theorem pk_drop (s : ByteArray) (b i : Nat) (h : b + i < s.size) (h' : i < (s.extract b s.size).size) : (s.extract b s.size)[i].toNat = pk s (b + i) := by
 rw [pk_in s (b + i) h]
 congr 1
 show (s.extract b s.size).data[i]'(by exact h') = s.data[b + i]'(by exact h)
 simp [ByteArray.data_extract]
theorem z3l (s : ByteArray) (b : Nat) : (s.extract b s.size).size = s.size - b := by
 simp [ByteArray.size_extract]
theorem FMid.ret {w wr : World} {vo vp : Value} {t : ByteArray} (h : FMid w wr vo vp t) (u0 u1 u2 : Value) :
  Below w.heap.size w (((wr.setCell ⟨w.heap.size, 0, none⟩ u0).setCell ⟨w.heap.size, 1, none⟩ u1).setCell ⟨w.heap.size, 2, none⟩ u2) ∧
  ∀ e, 163 ≠ e -> Keeps e wr (((wr.setCell ⟨w.heap.size, 0, none⟩ u0).setCell ⟨w.heap.size, 1, none⟩ u1).setCell ⟨w.heap.size, 2, none⟩ u2) :=
 ⟨((h.2.2.setCell (p := ⟨w.heap.size, 0, none⟩) (Nat.le_refl _) u0).setCell (p := ⟨w.heap.size, 1, none⟩) (Nat.le_refl _) u1).setCell (p := ⟨w.heap.size, 2, none⟩) (Nat.le_refl _) u2, store3 ⟨_, _, h.1⟩ u0 u1 u2⟩
theorem FMid.cells {w wr : World} {vo vp : Value} {t : ByteArray} (h : FMid w wr vo vp t) :
  (wr.cell? ⟨w.heap.size + 1, 0, none⟩ = some vo /\ wr.cell? ⟨w.heap.size + 1, 1, none⟩ = some vp /\ wr.cell? ⟨w.heap.size + 1, 2, none⟩ = some (.string t)) ∧
  (wr.frozen? ⟨w.heap.size + 1, 0, none⟩ = false /\ wr.frozen? ⟨w.heap.size + 1, 1, none⟩ = false /\ wr.frozen? ⟨w.heap.size + 1, 2, none⟩ = false) ∧
  (wr.cell? ⟨w.heap.size, 0, none⟩ = some (.slice none 0 0) /\ wr.cell? ⟨w.heap.size, 1, none⟩ = some (.slice none 0 0) /\ wr.cell? ⟨w.heap.size, 2, none⟩ = some (.string ⟨#[]⟩)) ∧
  (wr.frozen? ⟨w.heap.size, 0, none⟩ = false /\ wr.frozen? ⟨w.heap.size, 1, none⟩ = false /\ wr.frozen? ⟨w.heap.size, 2, none⟩ = false) /\ w.heap.size + 1 < wr.heap.size :=
 ⟨(tri0 h.2.1).1, (tri0 h.2.1).2.1, (tri0 h.1).1, (tri0 h.1).2.1, (tri0 h.2.1).2.2⟩
set_option maxRecDepth 100000 in
set_option maxHeartbeats 8000000 in
theorem rframe_any (g : Nat) (C : RBx) (s : ByteArray) (w : World) (h : RBoxAt w g C) (hn : C.L.sw.length <= 1000) :
  Calls Tryz.prog 98 #[.pointer (some ⟨g, 0, none⟩), .string s] w fun e w' => ∃ v, e = .returned (.tuple #[v, .bool (C.L.frameB s)]) /\ FShape v /\ (C.L.frameB s = true -> FrIn (fun k => w.heap.size <= k /\ k < w'.heap.size) w' v (C.L.frOf s)) /\ Below w.heap.size w w' := by
 have HCM := zh (fun (c x : Nat) (wz : World) (hz : Below w.heap.size w wz) (h1 : c < 256) (h2 : x < 256) => rcommand_any g C c x wz (h.below hz) h1 h2)
 obtain ⟨vh, vr, vt, vl, vw, vf, vd, va, vq, hB, hH, -⟩ := h
 obtain ⟨ah, ch, rfl, -, hmh, h3⟩ := SlAt.open hH
 obtain ⟨⟨q3, -⟩, -, qg⟩ := box12 hB
 unfold maxLen at hmh
 obtain ⟨Z, hZ⟩ : ∃ Z, Z = C.L.frameB s := ⟨_, rfl⟩
 rw [<- hZ]
 unfold Lay.frameB at hZ
 have HZ := zh hZ
 generalize C.L = L at *
 clear hH hB hZ
 by_cases c1 : s.size <= 64
 rotate_left
 ·have HZ2 := zh (show Z = false by rw [uh HZ, decide_eq_false c1]; rfl)
  have l1 : (64 : Int) < s.size := by omega
  clear c1 h3
  go_enter Tryz.func98, Tryz.ntmps98
  go_wp2
  refine bodyPost_ret (v := .tuple #[.agg #[.slice none 0 0, .slice none 0 0, .string ⟨#[]⟩], .bool false]) (by simp [results, Tryz.results98, go_sem]; try rfl) rfl ?_
  exact ⟨_, by rw [uh HZ2], ⟨_, _, _, _, _, _, _, rfl⟩, fun h => absurd h (by rw [uh HZ2]; simp), z06 (Below.refl _ _)⟩
 have HZ1 := zh (show Z = (L.okS s && L.okC s) by rw [uh HZ, decide_eq_true c1]; rfl)
 have l64 : ¬ (64 : Int) < s.size := by omega
 clear HZ
 by_cases c2 : s.size < L.sw.length
 ·have HZ2 := zh (show Z = false by
   rw [uh HZ1]
   have : L.okS s = false := z2c c2 (by
    unfold Lay.okB okO
    rw [pk_end s s.size (by omega)]; rfl)
   rw [this]; rfl)
  have l1 : (s.size : Int) < L.sw.length := by omega
  clear h3
  go_enter Tryz.func98, Tryz.ntmps98
  go_wp2
  refine bodyPost_ret (v := .tuple #[.agg #[.slice none 0 0, .slice none 0 0, .string ⟨#[]⟩], .bool false]) (by simp [results, Tryz.results98, go_sem]; try rfl) rfl ?_
  exact ⟨_, by rw [uh HZ2], ⟨_, _, _, _, _, _, _, rfl⟩, fun h => absurd h (by rw [uh HZ2]; simp), z06 (Below.refl _ _)⟩
 have l2 : ¬ (s.size : Int) < L.sw.length := by omega
 have HM0 := zh (show FMid w ((w.alloc zeroFr).alloc zeroFr) (.slice none 0 0) (.slice none 0 0) ⟨#[]⟩ from ⟨blk1 w _ _, blk2 w _ _, z06 (Below.refl _ _)⟩)
 have HP0 := zh (show L.posR 0 = L.sw.length by simp [Lay.posR, cntT])
 have Q3 := zh q3
 obtain ⟨i2, hi2⟩ := info_parts Tryz.infoByte
 have HIB := zh hi2
 obtain ⟨i3, hi3⟩ := info_parts Tryz.infoBool
 have HIO := zh hi3
 clear hi2 hi3
 go_enter Tryz.func98, Tryz.ntmps98
 go_wp2
 go_loopw [8, 9] (fun a i wr => ∃ k : Nat, ∃ vo vp, a = .int .i64 (L.posR k : Nat) /\ i = .int .i64 k /\ k <= L.sw.length /\ L.posR k <= s.size /\ (∀ j, j < k -> L.okB s j = true) /\ FMid w wr vo vp ⟨#[]⟩ ∧
   wr.ownsRow (w.heap.size + 2) 4 1 vo k (z0t ((List.range k).map (fun i => pk s i == 49))) /\ wr.ownsRow (w.heap.size + 2) 5 1 vp k (bytsV ((List.range k).map (L.repF s)))) (fun _ i _ => L.sw.length - (intOf i).toNat)
 case atStart => exact ⟨0, _, _, by rw [uh HP0], rfl, Nat.zero_le _, by rw [uh HP0]; omega, fun j h => by omega, uh HM0, World.ownsRow_nil _ _ _ _, World.ownsRow_nil _ _ _ _⟩
 case round =>
  clear HM0 HP0
  obtain ⟨k, vo, vp, rfl, rfl, hk, hps, hno, hM, ho, hp⟩ := hrel
  have HNO := zh hno
  have HM := zh hM
  have hmm := hM.2.2.size
  have hbw := hM.2.2
  obtain ⟨⟨y0, y1, y2⟩, ⟨f0, f1, f2⟩, ⟨z0, z1, z2⟩, ⟨g0, g1, g2⟩, qs⟩ := hM.cells
  rw [<- hbw.cell (p := ⟨g, _, none⟩) qg] at q3
  clear hno hM
  by_cases hlt : k < L.sw.length
  ·obtain ⟨gl, ol, hal, hgl, csl, -, hCl, hcl⟩ := h3 k hlt
   subst hal
   unfold CBool at hCl
   subst hCl
   have x0 := hcl 0 (by omega)
   rw [<- hbw.cell (p := ⟨gl, _, none⟩) hgl] at x0
   simp at x0
   have e1 : (k : Int) < L.sw.length := by omega
   have e2 : (k : Int) < s.size := by omega
   have hks : k < s.size := by omega
   have hpk := (pk_in s k hks).symm
   have HB1 := zh (show L.okB s k = ((pk s k == 48 || pk s k == 49) && (!L.sw[k] || isRep (pk s (L.posR k)))) by
    unfold Lay.okB okO Lay.okR
    rw [z0b _ _ _ hlt])
   have HRF := zh (show L.repF s k = if L.sw[k] then pk s (L.posR k) else 0 by
    unfold Lay.repF
    rw [z0b _ _ _ hlt])
   have HPS := zh (show L.posR (k + 1) = L.posR k + if L.sw[k] then 1 else 0 by
    unfold Lay.posR
    rw [cntT_succ _ _ hlt]; omega)
   have HFAIL := zh (show L.okB s k = false -> Z = false by
    intro h
    rw [uh HZ1, show L.okS s = false from z2c hlt h]; rfl)
   have HNN := zh (show L.okB s k = true -> ∀ j, j < k + 1 -> L.okB s j = true by
    intro h j hj
    by_cases hj' : j < k
    ·exact uh HNO j hj'
    ·obtain rfl : j = k := by omega
     exact h)
   have HSO := zh (show z0t ((List.range (k + 1)).map (fun i => pk s i == 49)) = z0t ((List.range k).map (fun i => pk s i == 49)) ++ [.bool (pk s k == 49)] by
    rw [List.range_succ, List.map_append]; exact z2h _ _)
   have HSP := zh (show bytsV ((List.range (k + 1)).map (L.repF s)) = bytsV ((List.range k).map (L.repF s)) ++ [.int .u8 (L.repF s k : Nat)] by
    rw [List.range_succ, List.map_append]; exact z1j _ _)
   obtain ⟨ao, co, hvo⟩ := z03 ho
   obtain ⟨ap, cp, hvp⟩ := z03 hp
   subst hvo hvp
   have HPP := zh (fun h => pk_in s (L.posR k) h)
   have HPE := zh (fun h => pk_end s (L.posR k) h)
   clear hcl h3 hbw HNO Q3 HCM
   rw [uh HRF] at HSP
   clear HRF
   generalize hps0 : L.posR k = ps at *
   clear hps0
   generalize L.sw[k] = b at *
   obtain ⟨c, hc⟩ : ∃ c, pk s k = c := ⟨_, rfl⟩
   rw [hc] at hpk HB1 HSO
   clear hc
   have hC3 : (c = 48 \/ c = 49) \/ (c ≠ 48 /\ c ≠ 49) := by omega
   rcases hC3 with hC3 | ⟨h48, h49⟩
   rotate_left
   ·have b1 : ((c : Int) != 48) = true := by simp; omega
    have b2 : ((c : Int) != 49) = true := by simp; omega
    have HZ2 := zh (uh HFAIL (by rw [uh HB1]; simp [h48, h49]))
    go_wp2
    refine bodyPost_ret (v := .tuple #[.agg #[.slice ao k co, .slice ap k cp, .string ⟨#[]⟩], .bool false]) (by simp [results, Tryz.results98, go_sem, z0, z1, z2]) rfl ?_
    exact ⟨_, by rw [uh HZ2], ⟨_, _, _, _, _, _, _, rfl⟩, fun h => absurd h (by rw [uh HZ2]; simp), ((uh HM).ret _ _ _).1⟩
   rcases hC3 with rfl | rfl
   all_goals
    cases b with
    | false =>
     have HN2 := zh (uh HNN (by rw [uh HB1]; rfl))
     simp only [Bool.false_eq_true, if_false, Nat.add_zero] at HPS HSP
     go_wp2
     go_region_law (refine z0z rfl (.tmp 83) (.tmp 88) 49 rfl (w.heap.size + 2) 4 i3 (.bool false) 1 1 Tryz.underlying49 (uh HIO).1 (uh HIO).2.1 (uh HIO).2.2.1 (uh HIO).2.2.2 rfl (by decide) (.slice ao k co) _ _ (by simp [Act.eval]) ((ho.alloc _).drew) ⟨wr.heap.size, 0, none⟩ 1 1 [_] (by simp [Act.eval]) rfl (z2m _ _ _) (z0a rfl) (by unfold maxLen; omega) (by omega) (by simp; omega) ?_; intro v4 w4 hown4 hgrow4; have hg4 := z23 hgrow4; have HM4 := zh ((uh HM).append ho hg4 (by decide)); obtain ⟨⟨r0, r1, r2⟩, ⟨v0, v1, v2⟩, -, -, qs4⟩ := (uh HM4).cells; obtain ⟨ao', co', hv4⟩ := z03 hown4; subst hv4; have HM5 := zh ((uh HM4).store (.slice ao' (k + 1) co') ⟨#[]⟩).1; have kk5 := fun e (n1 : 4 ≠ e) (n2 : 163 ≠ e) => (z07 ho hg4 n1).trans (Keeps.setCell ⟨w.heap.size + 1, 0, none⟩ (.slice ao' (k + 1) co') (uh HM4).typed n2); have hp5 := z01 hp (kk5 _ (by decide) (by decide)); have ho5 := z01 hown4 (Keeps.setCell ⟨w.heap.size + 1, 0, none⟩ (.slice ao' (k + 1) co') (uh HM4).typed (by decide)))
     all_goals
      have hs5 := (uh HM5).2.2.size
      clear hgrow4 hown4
      go_wp2_with (at_builtin; refine wpList_append_own _ rfl _ _ 75 rfl (w.heap.size + 2) 5 i2 (.int .u8 0) 1 1 Tryz.underlying75 (uh HIB).1 (uh HIB).2.1 (uh HIB).2.2.1 (uh HIB).2.2.2 rfl (by decide) _ _ _ rfl (hp5.alloc _) ⟨w4.heap.size, 0, none⟩ 1 1 [_] rfl rfl (z0h _ [_] _ _ (by simp [World.setCell])) (z0a rfl) (by unfold maxLen; omega) (by omega) (by simp [World.setCell]; omega) ?_; intro v6 w6 hown6 hgrow6 _; have HM6 := zh ((uh HM5).append hp5 hgrow6 (by decide)); obtain ⟨⟨s0, s1, s2⟩, ⟨t0, t1, t2⟩, -, -, qs6⟩ := (uh HM6).cells; obtain ⟨ap', cp', hv6⟩ := z03 hown6; subst hv6; have HM7 := zh ((uh HM6).store (.slice ap' (k + 1) cp') ⟨#[]⟩).2.1; have kk7 := fun e (n1 : 5 ≠ e) (n2 : 163 ≠ e) => (z07 hp5 hgrow6 n1).trans (Keeps.setCell ⟨w.heap.size + 1, 1, none⟩ (.slice ap' (k + 1) cp') (uh HM6).typed n2); have ho7 := z01 ho5 (kk7 _ (by decide) (by decide)); have hp7 := z01 hown6 (Keeps.setCell ⟨w.heap.size + 1, 1, none⟩ (.slice ap' (k + 1) cp') (uh HM6).typed (by decide)))
      exact ⟨⟨k + 1, _, _, by rw [uh HPS] <;> go_num, by go_num, by omega, by rw [uh HPS]; omega, uh HN2, uh HM7, by rw [uh HSO]; exact ho7, by rw [uh HSP]; exact hp7⟩, by simp [intOf]; omega⟩
    | true =>
     simp only [if_true] at HPS HSP
     by_cases hpz : ps < s.size
     rotate_left
     ·have l3 : (s.size : Int) <= ps := by omega
      have HZ2 := zh (uh HFAIL (by rw [uh HB1, uh HPE hpz]; rfl))
      go_wp2
      refine bodyPost_ret (v := .tuple #[.agg #[.slice ao k co, .slice ap k cp, .string ⟨#[]⟩], .bool false]) (by simp [results, Tryz.results98, go_sem, z0, z1, z2]) rfl ?_
      exact ⟨_, by rw [uh HZ2], ⟨_, _, _, _, _, _, _, rfl⟩, fun h => absurd h (by rw [uh HZ2]; simp), ((uh HM).ret _ _ _).1⟩
     ·have l3 : (ps : Int) < s.size := by omega
      have hpd := (uh HPP hpz).symm
      obtain ⟨d, hd⟩ : ∃ d, pk s ps = d := ⟨_, rfl⟩
      rw [hd] at hpd HB1 HSP
      clear hd
      have hD4 : (d = 43 \/ d = 45 \/ d = 63) \/ (d ≠ 43 /\ d ≠ 45 /\ d ≠ 63) := by omega
      rcases hD4 with hD4 | ⟨h43, h45, h63⟩
      rotate_left
      ·have d1 : ((d : Int) != 43) = true := by simp; omega
       have d2 : ((d : Int) != 45) = true := by simp; omega
       have d3 : ((d : Int) != 63) = true := by simp; omega
       have HZ2 := zh (uh HFAIL (by rw [uh HB1]; simp [isRep, h43, h45, h63]))
       go_wp2
       refine bodyPost_ret (v := .tuple #[.agg #[.slice ao k co, .slice ap k cp, .string ⟨#[]⟩], .bool false]) (by simp [results, Tryz.results98, go_sem, z0, z1, z2]) rfl ?_
       exact ⟨_, by rw [uh HZ2], ⟨_, _, _, _, _, _, _, rfl⟩, fun h => absurd h (by rw [uh HZ2]; simp), ((uh HM).ret _ _ _).1⟩
      rcases hD4 with rfl | rfl | rfl
      all_goals
       have HN2 := zh (uh HNN (by rw [uh HB1]; rfl))
       go_wp2
       go_region_law (refine z0z rfl (.tmp 83) (.tmp 88) 49 rfl (w.heap.size + 2) 4 i3 (.bool false) 1 1 Tryz.underlying49 (uh HIO).1 (uh HIO).2.1 (uh HIO).2.2.1 (uh HIO).2.2.2 rfl (by decide) (.slice ao k co) _ _ (by simp [Act.eval]) ((ho.alloc _).drew) ⟨wr.heap.size, 0, none⟩ 1 1 [_] (by simp [Act.eval]) rfl (z2m _ _ _) (z0a rfl) (by unfold maxLen; omega) (by omega) (by simp; omega) ?_; intro v4 w4 hown4 hgrow4; have hg4 := z23 hgrow4; have HM4 := zh ((uh HM).append ho hg4 (by decide)); obtain ⟨⟨r0, r1, r2⟩, ⟨v0, v1, v2⟩, -, -, qs4⟩ := (uh HM4).cells; obtain ⟨ao', co', hv4⟩ := z03 hown4; subst hv4; have HM5 := zh ((uh HM4).store (.slice ao' (k + 1) co') ⟨#[]⟩).1; have kk5 := fun e (n1 : 4 ≠ e) (n2 : 163 ≠ e) => (z07 ho hg4 n1).trans (Keeps.setCell ⟨w.heap.size + 1, 0, none⟩ (.slice ao' (k + 1) co') (uh HM4).typed n2); have hp5 := z01 hp (kk5 _ (by decide) (by decide)); have ho5 := z01 hown4 (Keeps.setCell ⟨w.heap.size + 1, 0, none⟩ (.slice ao' (k + 1) co') (uh HM4).typed (by decide)))
       all_goals
        have hs5 := (uh HM5).2.2.size
        clear hgrow4 hown4
        go_wp2_with (at_builtin; refine wpList_append_own _ rfl _ _ 75 rfl (w.heap.size + 2) 5 i2 (.int .u8 0) 1 1 Tryz.underlying75 (uh HIB).1 (uh HIB).2.1 (uh HIB).2.2.1 (uh HIB).2.2.2 rfl (by decide) _ _ _ rfl (hp5.alloc _) ⟨w4.heap.size, 0, none⟩ 1 1 [_] rfl rfl (z0h _ [_] _ _ (by simp [World.setCell])) (z0a rfl) (by unfold maxLen; omega) (by omega) (by simp [World.setCell]; omega) ?_; intro v6 w6 hown6 hgrow6 _; have HM6 := zh ((uh HM5).append hp5 hgrow6 (by decide)); obtain ⟨⟨s0, s1, s2⟩, ⟨t0, t1, t2⟩, -, -, qs6⟩ := (uh HM6).cells; obtain ⟨ap', cp', hv6⟩ := z03 hown6; subst hv6; have HM7 := zh ((uh HM6).store (.slice ap' (k + 1) cp') ⟨#[]⟩).2.1; have kk7 := fun e (n1 : 5 ≠ e) (n2 : 163 ≠ e) => (z07 hp5 hgrow6 n1).trans (Keeps.setCell ⟨w.heap.size + 1, 1, none⟩ (.slice ap' (k + 1) cp') (uh HM6).typed n2); have ho7 := z01 ho5 (kk7 _ (by decide) (by decide)); have hp7 := z01 hown6 (Keeps.setCell ⟨w.heap.size + 1, 1, none⟩ (.slice ap' (k + 1) cp') (uh HM6).typed (by decide)))
        exact ⟨⟨k + 1, _, _, by rw [uh HPS] <;> go_num, by go_num, by omega, by rw [uh HPS]; omega, uh HN2, uh HM7, by rw [uh HSO]; exact ho7, by rw [uh HSP]; exact hp7⟩, by simp [intOf]; omega⟩
  ·obtain rfl : k = L.sw.length := by omega
   have hbg : L.posR L.sw.length = L.bgn := by unfold Lay.posR Lay.bgn; rw [List.take_length]
   rw [hbg] at hps ⊢
   have HOS := zh (show L.okS s = true from ar_true (uh HNO))
   have HZ3 := zh (show Z = L.okC s by rw [uh HZ1, uh HOS]; rfl)
   have HOC := zh ho
   have HRP := zh hp
   have HFO := zh (show (L.frOf s).cmds = s.extract L.bgn s.size from rfl)
   obtain ⟨ao, co, hvo⟩ := z03 ho
   obtain ⟨ap, cp, hvp⟩ := z03 hp
   subst hvo hvp
   have hts := z3l s L.bgn
   have HPD := zh (fun i => pk_drop s L.bgn i)
   have l3 : (L.sw.length : Int) <= L.sw.length := by omega
   have l4 : (L.bgn : Int) <= s.size := by omega
   have l5 : (0 : Int) <= L.bgn := by omega
   have HOK := zh (show L.okC s = (decide ((s.size - L.bgn) % 2 = 0) && (List.range ((s.size - L.bgn) / 2)).all (L.okP s)) from rfl)
   have HOP := zh (show ∀ j, L.okP s j = L.cmdB (pk s (L.bgn + 2 * j)) (pk s (L.bgn + 2 * j + 1)) from fun _ => rfl)
   have HPL := zh (fun i => pk_lt s i)
   have HMc := zh ((uh HM).store (.slice none 0 0) (s.extract L.bgn s.size)).2.2
   have HKc := zh (fun e (n2 : 163 ≠ e) => Keeps.setCell (w := wr) (e := e) ⟨w.heap.size + 1, 2, none⟩ (.string (s.extract L.bgn s.size)) (uh HM).typed n2)
   clear h3 hbg HNO HZ1 ho hp hbw
   generalize L.bgn = bg at *
   obtain ⟨tx, htx⟩ : ∃ tx, s.extract bg s.size = tx := ⟨_, rfl⟩
   have HTX := zh htx
   simp only [htx] at hts HPD HFO HMc HKc
   rw [<- hts] at HOK
   have HTS := zh hts
   have htz : tx.size <= 64 := by omega
   clear hts
   have hev : tx.size % 2 = 0 \/ tx.size % 2 = 1 := by omega
   rcases hev with hev | hev
   rotate_left
   ·have HZ2 := zh (show Z = false by rw [uh HZ3, uh HOK, show decide (tx.size % 2 = 0) = false from decide_eq_false (by omega)]; rfl)
    have r0 : (tx.size : Int) % 2 = 1 := by omega
    have r1 : Int.tmod (tx.size : Int) 2 = 1 := by rw [Int.tmod_eq_emod_of_nonneg (by omega)]; exact r0
    clear hev HZ3 HOK HOP HPD HPL HCM HOS HOC HRP HFO HKc
    go_wp2
    refine bodyPost_ret (v := .tuple #[.agg #[.slice ao L.sw.length co, .slice ap L.sw.length cp, .string tx], .bool false]) (by simp [results, Tryz.results98, go_sem, z0, z1, z2]) rfl ?_
    exact ⟨_, by rw [uh HZ2], ⟨_, _, _, _, _, _, _, rfl⟩, fun h => absurd h (by rw [uh HZ2]; simp), ((uh HMc).ret _ _ _).1⟩
   ·have HZ4 := zh (show Z = (List.range (tx.size / 2)).all (L.okP s) by rw [uh HZ3, uh HOK, show decide (tx.size % 2 = 0) = true from decide_eq_true hev]; rfl)
    have r0 : (tx.size : Int) % 2 = 0 := by omega
    have r1 : Int.tmod (tx.size : Int) 2 = 0 := by rw [Int.tmod_eq_emod_of_nonneg (by omega)]; exact r0
    have HEV := zh hev
    clear hev HZ3 HOK
    obtain ⟨wo, hwo⟩ : ∃ wo : World, wo = wr := ⟨_, rfl⟩
    subst hwo
    go_wp2
    go_loopw [11] (fun i wx => ∃ m j : Nat, i = .int .i64 m /\ m = 2 * j /\ m <= tx.size /\ (∀ j', j' < j -> L.okP s j' = true) /\ Below wo.heap.size (wo.setCell ⟨w.heap.size + 1, 2, none⟩ (.string tx)) wx) (fun i _ => tx.size - (intOf i).toNat)
    case atStart => exact ⟨0, 0, rfl, rfl, Nat.zero_le _, fun j h => by omega, Below.refl _ _⟩
    case round =>
     obtain ⟨m, j, rfl, hmj, hmt, hno, hb⟩ := hrel
     have hbc : Below (wo.setCell ⟨w.heap.size + 1, 2, none⟩ (.string tx)).heap.size (wo.setCell ⟨w.heap.size + 1, 2, none⟩ (.string tx)) wr := by simpa [World.setCell] using hb
     have hM2 := (uh HMc).below hbc
     have HM2 := zh hM2
     have HNO := zh hno
     have HBC := zh hbc
     have HB := zh hb
     clear y0 y1 y2 f0 f1 f2 z0 z1 z2 g0 g1 g2 qs q3
     obtain ⟨⟨y0, y1, y2⟩, -, ⟨z0, z1, z2⟩, ⟨g0, g1, g2⟩, qs⟩ := hM2.cells
     have HBW := zh hM2.2.2
     clear hno hb hbc hM2
     obtain ⟨m1, hm1⟩ : ∃ m1 : Nat, (m : Int) + 1 = m1 := ⟨m + 1, by omega⟩
     have hm1' : m1 = m + 1 := by omega
     have hwrp : IntKind.i64.wrap ((m : Int) + 1) = (m1 : Int) := by rw [hm1]; exact Go.IntWalk.i64_in _ (by omega)
     have hwrq : IntKind.i64.wrap (m1 : Int) = (m1 : Int) := Go.IntWalk.i64_in _ (by omega)
     by_cases hlt : m1 < tx.size
     ·have e1 : (m1 : Int) < tx.size := by omega
      have e3 : (0 : Int) <= m1 := by omega
      have e2 : (m : Int) < tx.size := by omega
      have e0 : (0 : Int) <= m := by omega
      have hm0 : m < tx.size := by omega
      have hts := uh HTS
      have d0 := uh HPD m (by omega) hm0
      have d1 := uh HPD m1 (by omega) hlt
      have p0 := uh HPL (bg + m)
      have p1 := uh HPL (bg + m1)
      have HPJ := zh (show L.okP s j = L.cmdB (pk s (bg + m)) (pk s (bg + m1)) by rw [uh HOP j, <- hmj, hm1']; rfl)
      have HCC := zh (fun wz hz => uh HCM (pk s (bg + m)) (pk s (bg + m1)) wz hz p0 p1)
      rw [<- uh HPJ] at HCC
      have hj2 : j < tx.size / 2 := by omega
      have HFAIL := zh (show L.okP s j = false -> Z = false from fun h => by rw [uh HZ4]; exact z2c hj2 h)
      have HNN := zh (show L.okP s j = true -> ∀ j', j' < j + 1 -> L.okP s j' = true by
       intro h j' hj
       by_cases hj' : j' < j
       ·exact uh HNO j' hj'
       ·obtain rfl : j' = j := by omega
        exact h)
      have HMJ := zh (And.intro hmj hm1')
      clear hm1' hts HPJ HOP HPD HPL HCM hmj HNO
      generalize pk s (bg + m) = ca at *
      generalize pk s (bg + m1) = cb at *
      cases hokp : L.okP s j with
      | false =>
       rw [hokp] at HCC
       have HZ2 := zh (uh HFAIL hokp)
       clear hokp HNN HFAIL
       go_wp2
       go_quiet ((go_at_call 142; exact Calls.quiet_of_same (uh HCC _ (by exact below_drewN (uh HBW) _))))
       go_wp2
       refine bodyPost_ret (v := .tuple #[.agg #[.slice ao L.sw.length co, .slice ap L.sw.length cp, .string tx], .bool false]) (by simp [results, Tryz.results98, go_sem, z0, z1, z2]) rfl ?_
       exact ⟨_, by rw [uh HZ2], ⟨_, _, _, _, _, _, _, rfl⟩, fun h => absurd h (by rw [uh HZ2]; simp), (((uh HM2).below (below_drewN (Below.refl _ _) _)).ret _ _ _).1⟩
      | true =>
       rw [hokp] at HCC
       have HN2 := zh (uh HNN hokp)
       clear hokp HNN HFAIL
       go_wp2
       go_quiet ((go_at_call 142; exact Calls.quiet_of_same (uh HCC _ (by exact below_drewN (uh HBW) _))))
       go_wp2
       exact ⟨⟨m + 2, j + 1, by go_num, by have := (uh HMJ).1; omega, by have := uh HEV; have := (uh HMJ).1; have := (uh HMJ).2; omega, uh HN2, below_drewN (uh HB) _⟩, by simp [intOf]; omega⟩
     ·have e1 : (tx.size : Int) <= m1 := by omega
      have HZ2 := zh (show Z = true by
       rw [uh HZ4]
       exact ar_true (fun j' hj' => uh HNO j' (by have := uh HEV; omega)))
      have HO2 := zh (z01 (uh HOC) ((uh HKc _ (by decide)).trans (Keeps.below (uh HBC))))
      have HR2 := zh (z01 (uh HRP) ((uh HKc _ (by decide)).trans (Keeps.below (uh HBC))))
      clear HOP HPD HPL HCM hm1' hmj
      go_wp2
      refine bodyPost_ret (v := .tuple #[.agg #[.slice ao L.sw.length co, .slice ap L.sw.length cp, .string tx], .bool true]) (by simp [results, Tryz.results98, go_sem, z0, z1, z2]) rfl ?_
      have hret := (uh HM2).ret (.slice ao L.sw.length co) (.slice ap L.sw.length cp) (.string tx)
      refine ⟨_, by rw [uh HZ2], ⟨_, _, _, _, _, _, _, rfl⟩, fun _ => ?_, hret.1⟩
      have hfi := fr_in (B0 := w.heap.size) (oc := (L.frOf s).occ) (re := (L.frOf s).rep) (c := tx) (by simpa [Lay.frOf] using z01 (uh HO2) (hret.2 _ (by decide))) (by simpa [Lay.frOf] using z01 (uh HR2) (hret.2 _ (by decide))) (by omega)
      have hfe : (⟨(L.frOf s).occ, (L.frOf s).rep, tx⟩ : Fr) = L.frOf s := by rw [<- uh HFO]
      rw [hfe] at hfi
      exact hfi
end Go.Proofs.YtkbpocecbcaiiaaGreatDoor
