import Derived.Test.YtkbpocecbcaiiabGreatDoorN56
namespace Go.Proofs.YtkbpocecbcaiiabGreatDoor
open Go.RowKit
set_option maxRecDepth 100000 in
set_option maxHeartbeats 8000000 in
theorem kcounted_yes (g : Nat) (L : Lay) (gh gw gt : Nat) (t0 t1 t2 t3 b0 b1 b2 b3 b4 a0 a1 a2 a3 a4 : ByteArray) (w : World) (h : KPl w g L) (hh : w.heap[gh]? = some (z4s t0 t1 t2 t3)) (hb : w.heap[gw]? = some (toldO b0 b1 b2 b3 b4)) (ha : w.heap[gt]? = some (toldO a0 a1 a2 a3 a4))
  (hA : AskOK L a0 a1 a2 a3 a4) (hB : AskOK L b0 b1 b2 b3 b4) (hs3 : t3.size <= 1000)
  (hf : ∀ t, t < L.tns.length -> cntG t3 t <= 1 /\ 48 + cntG t3 t <= pk a3 t /\ (pk a3 t = pk b3 t + cntG t3 t ∨
   (pk a3 t + 1 = pk b3 t + cntG t3 t /\ (L.tn t).jny.getD (pk a3 t - cntG t3 t - 48) 0 < L.rts.length /\ pk b1 ((L.tn t).jny.getD (pk a3 t - cntG t3 t - 48) 0) = 100))) :
  Calls Tryz.prog 15 #[.pointer (some ⟨g, 0, none⟩), .pointer (some ⟨gh, 0, none⟩), .pointer (some ⟨gw, 0, none⟩), .pointer (some ⟨gt, 0, none⟩)] w fun e w' => e = .returned (.bool true) /\ ∃ m, w' = w.drewN m := by
 have htn := hA.tn
 have HG := zh (fun (k n : Nat) (hk : k <= 100) => z4y gh t0 t1 t2 t3 k (w.drewN n) hh hs3 hk)
 obtain ⟨vh, vp, vf, va, vk, vw, vs, vj, e, -, -, -, -, -, -, a7, a8⟩ := h
 obtain ⟨⟨-, -, -, -, -, -, -, -, -, c9, c10⟩, hg⟩ := z0n e
 obtain ⟨⟨-, x1, -, x3, -⟩, -, hgw⟩ := z0m hb
 obtain ⟨⟨-, -, -, z3, -⟩, -, hgt⟩ := z0m ha
 obtain ⟨as_, cs, rfl, -⟩ := SlAt.open a7
 rw [List.length_map] at c9
 have HJ := zh (fun (t : Nat) (ht : t < L.tns.length) => z3h a8 t (by simpa using ht))
 have HF := zh hf
 have s3 := hA.s3
 have sb3 := hB.s3
 have sb1 := hB.s1
 have HB3 := zh hB.b3
 obtain ⟨nt, hnt⟩ : ∃ n, n = L.tns.length := ⟨_, rfl⟩
 have HNT := zh hnt
 rw [<- hnt] at c9 s3 sb3 htn
 clear e a7 a8 hf hh ha hb hA hB hnt
 go_enter Tryz.func15, Tryz.ntmps15
 go_wp2
 go_loopw [9] (fun i wr => ∃ k mm : Nat, k <= nt /\ i = .int .i64 k /\ wr = w.drewN mm) (fun i _ => nt - (intOf i).toNat)
 case atStart => exact ⟨0, 0, Nat.zero_le _, rfl, rfl⟩
 case round =>
  obtain ⟨k, mm, hk, rfl, hwr⟩ := hrel
  have HWR := zh hwr
  have n9 : wr.cell? ⟨g, 9, none⟩ = some (.slice as_ nt cs) := by rw [hwr]; exact c9
  have n10 : wr.cell? ⟨g, 10, none⟩ = some vj := by rw [hwr]; exact c10
  have m1 : wr.cell? ⟨gw, 1, none⟩ = some (.string b1) := by rw [hwr]; exact x1
  have m3 : wr.cell? ⟨gw, 3, none⟩ = some (.string b3) := by rw [hwr]; exact x3
  have p3 : wr.cell? ⟨gt, 3, none⟩ = some (.string a3) := by rw [hwr]; exact z3
  have ng : g < wr.heap.size := by rw [hwr]; exact hg
  have ngw : gw < wr.heap.size := by rw [hwr]; exact hgw
  have ngt : gt < wr.heap.size := by rw [hwr]; exact hgt
  by_cases hlt : k < nt
  ·have hk' : k < L.tns.length := by rw [<- uh HNT]; exact hlt
   obtain ⟨f1, f2, f3⟩ := uh HF k hk'
   have HG1 := zh (uh HG k mm (by omega))
   rw [<- hwr] at HG1
   have k1 : k < a3.size := by omega
   have k2 : k < b3.size := by omega
   obtain ⟨b, hbb⟩ : ∃ b, (a3[k]'k1).toNat = b := ⟨_, rfl⟩
   obtain ⟨o, hoo⟩ : ∃ b, (b3[k]'k2).toNat = b := ⟨_, rfl⟩
   have hb' : pk a3 k = b := (z0j a3 k k1).symm.trans hbb
   have ho' : pk b3 k = o := (z0j b3 k k2).symm.trans hoo
   rw [hb'] at f2 f3
   rw [ho'] at f3
   have b256 : b < 256 := by rw [<- hbb]; exact (a3[k]'k1).toNat_lt
   have o256 : o < 256 := by rw [<- hoo]; exact (b3[k]'k2).toNat_lt
   have eb : IntKind.i64.wrap (b : Int) = b := Go.IntWalk.i64_in _ (by omega)
   have eo : IntKind.i64.wrap (o : Int) = o := Go.IntWalk.i64_in _ (by omega)
   have ob := (uh HB3 k k2).2
   rw [ho'] at ob
   generalize cntG t3 k = n at *
   obtain ⟨md, hmd⟩ : ∃ m, m = b - n := ⟨_, rfl⟩
   have emd : (b : Int) - n = md := by omega
   rw [<- hmd] at f3
   have l1 : (k : Int) < nt := by omega
   have l2 : (k : Int) < a3.size := by omega
   have l3 : (k : Int) < b3.size := by omega
   have l4 : (0 : Int) <= k := by omega
   have l5 : ¬ 1 < n := by omega
   have l5' : decide (1 < n) = false := by simp; omega
   have l6 : ¬ (md : Int) < 48 := by omega
   have l6' : ¬ md < 48 := by omega
   have l6'' : decide (md < 48) = false := by simp; omega
   have l7 : md <= 256 := by omega
   have l8 : k <= 100 := by omega
   rcases f3 with f3 | ⟨f3, f4, f5⟩
   ·obtain rfl : o = md := by omega
    have q1 : ((o : Int) != (o : Int)) = false := by simp
    have q2 : ((o : Int) == (o : Int) - 1) = false := by simp; omega
    clear hb' ho' hwr hmd f2 ob
    go_wp2_with fail
    refine (uh HG1).mono ?_
    rintro e w2 ⟨rfl, rfl⟩
    go_wp2
    go_quiet (fail)
    go_wp2
    exact ⟨⟨k + 1, mm + nq, by omega, by go_num, by rw [uh HWR]; exact z20 _ _ _⟩, by simp [intOf]; omega⟩
   ·have eo1 : (o : Int) - 1 = md := by omega
    have q1 : ((md : Int) != (o : Int)) = true := by simp; omega
    obtain ⟨j, hj⟩ : ∃ j, j = md - 48 := ⟨_, rfl⟩
    have ej : (md : Int) - 48 = j := by omega
    rw [<- hj] at f4 f5
    obtain ⟨gj, oj, cj, ar, cr, ev, hgj, xr, hui⟩ := uh HJ k hk'
    subst ev
    rw [tns_jny hk'] at xr hui
    rw [List.length_map, <- uh HNT] at n10
    obtain ⟨ar', cr', hv, hm, hrow⟩ := z3i hui
    simp only [Value.slice.injEq] at hv
    obtain ⟨rfl, -, rfl⟩ := hv
    have hjl : j < (L.tn k).jny.length := by omega
    obtain ⟨gq, oq, rfl, hgq, xq⟩ := hrow j hjl
    rw [z06 hjl] at f4 f5
    obtain ⟨r, hre⟩ : ∃ r, r = (L.tn k).jny[j] := ⟨_, rfl⟩
    rw [<- hre] at f4 f5 xq
    have hrb : r < b1.size := by omega
    obtain ⟨y, hy⟩ : ∃ y, (b1[r]'hrb).toNat = y := ⟨_, rfl⟩
    have hy' : y = 100 := by rw [<- f5, <- hy]; exact z0j b1 r hrb
    subst hy'
    obtain ⟨nl, hnl⟩ : ∃ n, n = (L.tn k).jny.length := ⟨_, rfl⟩
    rw [<- hnl] at xr hjl
    have nxr : wr.cell? ⟨gj, oj + k, none⟩ = some (.slice (some ⟨gq, oq, none⟩) nl cr) := by rw [hwr]; exact xr
    have nxq : wr.cell? ⟨gq, oq + j, none⟩ = some (.int .i64 (r : Nat)) := by rw [hwr]; exact xq
    have ngj : gj < wr.heap.size := by rw [hwr]; exact hgj
    have ngq : gq < wr.heap.size := by rw [hwr]; exact hgq
    have l9 : (j : Int) < nl := by omega
    have l10 : (r : Int) < b1.size := by omega
    have l11 : (0 : Int) <= j := by omega
    have l12 : (0 : Int) <= r := by omega
    have l13 : j <= 256 := by omega
    clear hb' ho' hwr hmd f2 ob hj hrow hui hre hnl xr xq f5
    go_wp2_with fail
    refine (uh HG1).mono ?_
    rintro e w2 ⟨rfl, rfl⟩
    go_wp2
    go_quiet (fail)
    go_wp2
    exact ⟨⟨k + 1, mm + nq, by omega, by go_num, by rw [uh HWR]; exact z20 _ _ _⟩, by simp [intOf]; omega⟩
  ·have l1 : ¬ (k : Int) < nt := by omega
   clear hwr
   go_wp2
   go_ret
   exact ⟨rfl, mm, uh HWR⟩
def hasB (q : ByteArray) (x : Nat) : Bool := (List.range q.size).any (fun i => pk q i == x)
def AskJ (L : Lay) (c x a : Nat) (N : Nat -> Nat) (q q' : ByteArray) : Prop :=
 (c ≠ 114 /\ q' = q) \/ (c = 114 /\ 49 <= x /\ x - 49 < L.tns.length ∧
  ((N (x - 49) = (L.tn (x - 49)).jny.length /\ a = 100 /\ q' = q) ∨
   (N (x - 49) ≠ (L.tn (x - 49)).jny.length /\ hasB q x = true /\ a = 116 /\ q' = q) ∨
   (N (x - 49) ≠ (L.tn (x - 49)).jny.length /\ hasB q x = false /\ q.size = L.Q /\ a = 102 /\ q' = q) ∨
   (N (x - 49) ≠ (L.tn (x - 49)).jny.length /\ hasB q x = false /\ q.size ≠ L.Q /\ a = 113 /\ q' = q ++ ⟨#[UInt8.ofNat x]⟩)))
theorem has_nats {l : List Nat} (h : ∀ t, t ∈ l -> 49 + t < 256) {x : Nat} (hx : 49 <= x) : hasB (z0g (l.map (49 + ·))) x = l.contains (x - 49) := by
 have hb : ∀ y, y ∈ l.map (49 + ·) -> y < 256 := by
  intro y hy
  obtain ⟨t, ht, rfl⟩ := List.mem_map.1 hy
  exact h t ht
 apply Bool.eq_iff_iff.2
 unfold hasB
 rw [List.any_eq_true, List.contains_iff_mem, z0q, List.length_map]
 constructor
 ·rintro ⟨i, hi, e⟩
  have hi' := List.mem_range.1 hi
  rw [z26 hb, z06 (by simpa using hi'), List.getElem_map, beq_iff_eq] at e
  have : l[i] = x - 49 := by omega
  rw [<- this]
  exact List.getElem_mem hi'
 ·intro hm
  obtain ⟨i, hi, e⟩ := List.getElem_of_mem hm
  refine ⟨i, List.mem_range.2 hi, ?_⟩
  rw [z26 hb, z06 (by simpa using hi), List.getElem_map, beq_iff_eq, e]
  omega
def quN (C : RBx) (f : Fr) (j : Nat) : ByteArray := z0g (((C.s2 f).doN f j).waits.map (49 + ·))
theorem quN_zero (C : RBx) (f : Fr) : quN C f 0 = quS C := by
 have e : (C.s2 f).waits = C.waits := ((z2v (C.s1 f) f _).2.2.2.2).trans (z0w C f C.L.sw.length).2.2.2.2
 show z0g ((C.s2 f).waits.map (49 + ·)) = z0g (C.waits.map (49 + ·))
 rw [e]
theorem doC_waits {C : RBx} {f : Fr} {c : Nat} (x : Nat) (h : c ≠ 114) : (C.doC f c x).waits = C.waits := by
 unfold RBx.doC RBx.cancel
 rw [if_neg h]
 repeat' split
 all_goals rfl
theorem asked_facts {C : RBx} {s : ByteArray} (S : Stgs C (C.L.frOf s)) {j : Nat} (hj : j < (C.L.frOf s).cmds.size / 2) :
  AskJ C.L (pk (C.L.frOf s).cmds (2 * j)) (pk (C.L.frOf s).cmds (2 * j + 1)) (pk (anS C s) j) (fun t => pk (atS (C.s4 (C.L.frOf s))) t - 48 - cntG (grS C s) t) (quN C (C.L.frOf s) j) (quN C (C.L.frOf s) (j + 1)) := by
 rw [an_pk C s hj]
 have hcm := S.cm j hj
 have hI := S.d j (by omega)
 have hN : ∀ t, t < C.L.tns.length -> pk (atS (C.s4 (C.L.frOf s))) t - 48 - cntG (grS C s) t = ((C.s2 (C.L.frOf s)).doN (C.L.frOf s) j).sta.getD t 0 := by
  intro t ht
  have e4 := at_pk S.i4 (t := t) (by rw [S.l4]; exact ht)
  have h4 := z5h S.g t (C.s3 (C.L.frOf s)).waits.length (Nat.le_refl _)
  have h4' : (C.s4 (C.L.frOf s)).sta.getD t 0 = (C.s3 (C.L.frOf s)).sta.getD t 0 + cntG (grS C s) t := by rw [gr_cnt S t]; exact h4
  have h3 : (C.s3 (C.L.frOf s)).sta = (C.s2 (C.L.frOf s)).sta := (z38 (C.s2 (C.L.frOf s)) (C.L.frOf s) _).2.2.2
  have hj3 := (z38 (C.s2 (C.L.frOf s)) (C.L.frOf s) j).2.2.2
  rw [hj3, <- h3]
  omega
 have hL : ((C.s2 (C.L.frOf s)).doN (C.L.frOf s) j).L = C.L := ((z38 (C.s2 (C.L.frOf s)) (C.L.frOf s) j).2.1).trans S.l2
 unfold RBx.doAt quN
 show AskJ _ _ _ _ _ _ (z0g ((((C.s2 (C.L.frOf s)).doN (C.L.frOf s) j).doC (C.L.frOf s) (pk (C.L.frOf s).cmds (2 * j)) (pk (C.L.frOf s).cmds (2 * j + 1))).waits.map (49 + ·)))
 generalize (C.s2 (C.L.frOf s)).doN (C.L.frOf s) j = E at *
 generalize pk (C.L.frOf s).cmds (2 * j) = c at *
 generalize pk (C.L.frOf s).cmds (2 * j + 1) = x at *
 by_cases hc : c = 114
 case neg => exact .inl ⟨hc, by rw [doC_waits x hc]⟩
 right
 subst hc
 unfold Lay.cmdB at hcm
 rw [if_pos rfl] at hcm
 have hx : 49 <= x /\ x < 49 + C.L.tns.length := by
  unfold numF at hcm
  by_cases h : 49 <= x /\ x < 49 + C.L.tns.length
  ·exact h
  ·rw [if_neg h] at hcm; cases hcm
 refine ⟨rfl, hx.1, by omega, ?_⟩
 have htn := hI.lay.good.tns
 have hw : ∀ t, t ∈ E.waits -> 49 + t < 256 := fun t ht => by have := (hI.wt t ht).1; omega
 have hA : E.doA 114 x = E.askA (x - 49) := by unfold RBx.doA; rw [if_pos rfl]
 have hC : E.doC (C.L.frOf s) 114 x = E.ask (x - 49) := by unfold RBx.doC; rw [if_pos rfl]
 rw [hA, hC]
 simp only
 rw [hN _ (by omega), has_nats hw hx.1, z0q, List.length_map, <- hL]
 unfold RBx.ask RBx.askA
 by_cases h1 : E.sta.getD (x - 49) 0 = (E.L.tn (x - 49)).jny.length
 ·left
  rw [if_pos h1]
  exact ⟨h1, rfl, by rw [if_neg (by decide)]⟩
 right
 rw [if_neg h1]
 by_cases h2 : E.waits.contains (x - 49) = true
 ·left
  rw [if_pos ((z49 _ _).2 h2)]
  exact ⟨h1, h2, rfl, by rw [if_neg (by decide)]⟩
 right
 have h2' : E.waits.contains (x - 49) = false := by simpa using h2
 rw [if_neg (fun hh => h2 ((z49 _ _).1 hh))]
 by_cases h3 : E.waits.length = E.L.Q
 ·left
  rw [if_pos h3]
  exact ⟨h1, h2', h3, rfl, by rw [if_neg (by decide)]⟩
 ·right
  rw [if_neg h3]
  refine ⟨h1, h2', h3, rfl, ?_⟩
  rw [if_pos rfl]
  show z0g ((E.waits ++ [x - 49]).map (49 + ·)) = _
  rw [List.map_append, show [x - 49].map (49 + ·) = [x] by simp; omega]
  exact z3r _ _
def srvB (q g : ByteArray) : Nat -> List Nat × Nat
 | 0 => ([], 0)
 | i + 1 => if (srvB q g i).2 < g.size /\ pk g (srvB q g i).2 = pk q i then ((srvB q g i).1, (srvB q g i).2 + 1) else ((srvB q g i).1 ++ [pk q i], (srvB q g i).2)
theorem srvB_le (q g : ByteArray) : ∀ i, (srvB q g i).2 <= g.size /\ (srvB q g i).1.length <= i
 | 0 => ⟨Nat.zero_le _, Nat.le_refl _⟩
 | i + 1 => by
  obtain ⟨a, b⟩ := srvB_le q g i
  unfold srvB
  split
  ·rename_i h; exact ⟨h.1, Nat.le_succ_of_le b⟩
  ·refine ⟨a, ?_⟩
   show ((srvB q g i).1 ++ [pk q i]).length <= i + 1
   rw [List.length_append]
   simp
   exact b
theorem srvB_srv {q g : List Nat} (hq : ∀ t, t ∈ q -> 49 + t < 256) (hg : ∀ t, t ∈ g -> 49 + t < 256) : ∀ i, i <= q.length →
  (srv (q.take i) g).1.map (49 + ·) = (srvB (z0g (q.map (49 + ·))) (z0g (g.map (49 + ·))) i).1 /\ (srv (q.take i) g).2 = g.drop (srvB (z0g (q.map (49 + ·))) (z0g (g.map (49 + ·))) i).2
 | 0, _ => by
  cases g <;> exact ⟨rfl, rfl⟩
 | i + 1, hi => by
  obtain ⟨a, b⟩ := srvB_srv hq hg i (by omega)
  have hbq : ∀ y, y ∈ q.map (49 + ·) -> y < 256 := by
   intro y hy
   obtain ⟨t, ht, rfl⟩ := List.mem_map.1 hy
   exact hq t ht
  have hbg : ∀ y, y ∈ g.map (49 + ·) -> y < 256 := by
   intro y hy
   obtain ⟨t, ht, rfl⟩ := List.mem_map.1 hy
   exact hg t ht
  have et : q.take (i + 1) = q.take i ++ [q[i]] := List.take_succ_eq_append_getElem (by omega)
  have eq : pk (z0g (q.map (49 + ·))) i = 49 + q[i] := by
   rw [z26 hbq, z06 (by simpa using (show i < q.length by omega)), List.getElem_map]
  have eg : ∀ k, k < g.length -> pk (z0g (g.map (49 + ·))) k = 49 + g.getD k 0 := by
   intro k hk
   rw [z26 hbg, z06 (by simpa using hk), List.getElem_map, z06 hk]
  have ez : (z0g (g.map (49 + ·))).size = g.length := by rw [z0q, List.length_map]
  rw [et, srv_snoc]
  unfold srvB
  rw [eq, ez]
  generalize srvB (z0g (q.map (49 + ·))) (z0g (g.map (49 + ·))) i = p at *
  generalize srv (q.take i) g = z at *
  obtain ⟨p1, p2⟩ := p
  obtain ⟨z1, z2⟩ := z
  simp only at a b
  subst b
  unfold srv1
  simp only
  rcases Nat.lt_or_ge p2 g.length with hl | hl
  ·rw [List.drop_eq_getElem_cons hl]
   simp only
   rw [eg p2 hl, z06 hl]
   by_cases e : g[p2] = q[i]
   ·rw [if_pos e, if_pos ⟨hl, by omega⟩]
    exact ⟨a, rfl⟩
   ·rw [if_neg e, if_neg (fun h => e (by omega))]
    simp only
    exact ⟨by rw [List.map_append, a]; rfl, by rw [List.drop_eq_getElem_cons hl]⟩
  ·have e0 : g.drop p2 = [] := List.drop_eq_nil_of_le hl
   rw [e0, if_neg (fun h => by omega)]
   simp only
   exact ⟨by rw [List.map_append, a]; rfl, e0.symm⟩
theorem served_facts {C : RBx} {s : ByteArray} (S : Stgs C (C.L.frOf s)) :
  z0g (srvB (quN C (C.L.frOf s) ((C.L.frOf s).cmds.size / 2)) (grS C s) (quN C (C.L.frOf s) ((C.L.frOf s).cmds.size / 2)).size).1 = quS (C.s4 (C.L.frOf s)) ∧
  (srvB (quN C (C.L.frOf s) ((C.L.frOf s).cmds.size / 2)) (grS C s) (quN C (C.L.frOf s) ((C.L.frOf s).cmds.size / 2)).size).2 = (grS C s).size := by
 have htn := S.i3.lay.good.tns
 have hq : ∀ t, t ∈ (C.s3 (C.L.frOf s)).waits -> 49 + t < 256 := fun t ht => by have := (S.i3.wt t ht).1; omega
 have hg : ∀ t, t ∈ (C.s3 (C.L.frOf s)).servN (C.L.frOf s) (C.s3 (C.L.frOf s)).waits.length -> 49 + t < 256 := fun t ht => hq t (S.sv t ht)
 have h1 := srv_grant (f := C.L.frOf s) S.i3.wn (C.s3 (C.L.frOf s)).waits.length (Nat.le_refl _) [] (fun x hx => by cases hx)
 rw [List.append_nil] at h1
 have h2 := srvB_srv hq hg (C.s3 (C.L.frOf s)).waits.length (Nat.le_refl _)
 have e1 : quN C (C.L.frOf s) ((C.L.frOf s).cmds.size / 2) = z0g ((C.s3 (C.L.frOf s)).waits.map (49 + ·)) := rfl
 have e2 : grS C s = z0g (((C.s3 (C.L.frOf s)).servN (C.L.frOf s) (C.s3 (C.L.frOf s)).waits.length).map (49 + ·)) := rfl
 have ez : (z0g ((C.s3 (C.L.frOf s)).waits.map (49 + ·))).size = (C.s3 (C.L.frOf s)).waits.length := by rw [z0q, List.length_map]
 rw [e1, e2, ez]
 rw [h1] at h2
 obtain ⟨a, b⟩ := h2
 have hle := (srvB_le (z0g ((C.s3 (C.L.frOf s)).waits.map (49 + ·))) (z0g (((C.s3 (C.L.frOf s)).servN (C.L.frOf s) (C.s3 (C.L.frOf s)).waits.length).map (49 + ·))) (C.s3 (C.L.frOf s)).waits.length).1
 refine ⟨?_, ?_⟩
 ·rw [<- a]; rfl
 ·rw [z0q, List.length_map] at hle ⊢
  have := List.drop_eq_nil_iff.1 b.symm
  omega
theorem slice_one (q : ByteArray) {i : Nat} (hi : i < q.size) : q.extract i (i + 1) = ⟨#[UInt8.ofNat (pk q i)]⟩ := by
 have hl : i < q.data.toList.length := by simpa using hi
 rw [z2r, List.drop_take, List.drop_eq_getElem_cons hl]
 have e : i + 1 - i = 1 := by omega
 rw [e]
 have e2 : UInt8.ofNat (pk q i) = q.data.toList[i] := by
  unfold pk
  rw [List.getD_eq_getElem?_getD, List.getElem?_eq_getElem hl]
  simp
 rw [e2]
 simp
set_option maxRecDepth 100000 in
set_option maxHeartbeats 8000000 in
theorem kserved_any (q g : ByteArray) (w : World) (hq : q.size <= 1000) (hg : g.size <= 1000) :
  Calls Tryz.prog 17 #[.string q, .string g] w fun e w' => e = .returned (.tuple #[.string (z0g (srvB q g q.size).1), .bool (decide ((srvB q g q.size).2 = g.size))]) /\ Below w.heap.size w w' := by
 obtain ⟨Z, hZ⟩ : ∃ Z, Z = z0g (srvB q g q.size).1 := ⟨_, rfl⟩
 obtain ⟨Y, hY⟩ : ∃ Y, Y = decide ((srvB q g q.size).2 = g.size) := ⟨_, rfl⟩
 rw [<- hZ, <- hY]
 have HZ := zh (And.intro hZ hY)
 clear hZ hY
 go_enter Tryz.func17, Tryz.ntmps17
 go_wp2
 go_loopw [6, 7, 8] (fun l a i wr => ∃ k mm c : Nat, ∃ t : ByteArray, k <= q.size /\ i = .int .i64 k /\ a = .int .i64 c /\ l = .string t /\ t = z0g (srvB q g k).1 /\ c = (srvB q g k).2 /\ wr = w.drewN mm) (fun _ _ i _ => q.size - (intOf i).toNat)
 case atStart => exact ⟨0, 0, 0, ByteArray.empty, Nat.zero_le _, rfl, rfl, rfl, rfl, rfl, rfl⟩
 case round =>
  obtain ⟨k, mm, c, t, hk, rfl, rfl, rfl, ht, hc, hwr⟩ := hrel
  have HWR := zh hwr
  have hcle : c <= g.size := by rw [hc]; exact (srvB_le q g k).1
  have htle : t.size <= 1000 := by rw [ht, z0q]; have := (srvB_le q g k).2; omega
  by_cases hlt : k < q.size
  ·have HS := zh (show srvB q g (k + 1) = if c < g.size /\ pk g c = pk q k then ((srvB q g k).1, c + 1) else ((srvB q g k).1 ++ [pk q k], c) by rw [hc]; rfl)
   have HT := zh (And.intro ht hc)
   clear ht hc hwr
   have l1 : (k : Int) < q.size := by omega
   have l0 : (0 : Int) <= k := by omega
   obtain ⟨u, hu⟩ : ∃ u, (q[k]'hlt).toNat = u := ⟨_, rfl⟩
   have hu' : pk q k = u := (z0j q k hlt).symm.trans hu
   have hu256 : u < 256 := by rw [<- hu]; exact (q[k]'hlt).toNat_lt
   rw [hu'] at HS
   have es := slice_one q hlt
   rw [hu'] at es
   have l2 : ((k : Int) + 1) <= q.size := by omega
   clear hu'
   by_cases h1 : c < g.size
   ·have l3 : (c : Int) < g.size := by omega
    have l3' : decide (c < g.size) = true := by simp; omega
    obtain ⟨v, hv⟩ : ∃ v, (g[c]'h1).toNat = v := ⟨_, rfl⟩
    have hv' : pk g c = v := (z0j g c h1).symm.trans hv
    have hv256 : v < 256 := by rw [<- hv]; exact (g[c]'h1).toNat_lt
    rw [hv'] at HS
    clear hv'
    by_cases h2 : v = u
    ·subst h2
     have HS2 := zh ((uh HS).trans (if_pos ⟨h1, rfl⟩))
     clear HS
     go_wp2
     go_quiet (fail)
     go_wp2
     exact ⟨⟨k + 1, mm + nq, c + 1, t, by omega, by go_num, by go_num, rfl, by rw [uh HS2]; exact (uh HT).1, by rw [uh HS2], by rw [uh HWR]; exact z20 _ _ _⟩, by simp [intOf]; omega⟩
    ·have HS2 := zh ((uh HS).trans (if_neg (fun h => h2 h.2)))
     have b1 : ((v : Int) == (u : Int)) = false := by simp; omega
     clear HS
     go_wp2
     go_quiet (fail)
     go_wp2
     exact ⟨⟨k + 1, mm + nq, c, t ++ ⟨#[UInt8.ofNat u]⟩, by omega, by go_num, rfl, rfl, by rw [uh HS2, z3r, <- (uh HT).1], by rw [uh HS2], by rw [uh HWR]; exact z20 _ _ _⟩, by simp [intOf]; omega⟩
   ·have l3 : ¬ (c : Int) < g.size := by omega
    have l3' : decide (c < g.size) = false := by simp; omega
    have HS2 := zh ((uh HS).trans (if_neg (fun h => h1 h.1)))
    clear HS
    go_wp2
    go_quiet (fail)
    go_wp2
    exact ⟨⟨k + 1, mm + nq, c, t ++ ⟨#[UInt8.ofNat u]⟩, by omega, by go_num, rfl, rfl, by rw [uh HS2, z3r, <- (uh HT).1], by rw [uh HS2], by rw [uh HWR]; exact z20 _ _ _⟩, by simp [intOf]; omega⟩
  ·have l1 : ¬ (k : Int) < q.size := by omega
   obtain rfl : k = q.size := by omega
   have e1 : t = Z := by rw [(uh HZ).1]; exact ht
   have e2 : Y = decide (c = g.size) := by rw [(uh HZ).2, hc]
   subst e1
   clear hwr ht hc
   by_cases h1 : c = g.size
   ·have b1 : ((c : Int) == (g.size : Int)) = true := by simp; omega
    have b2 : Y = true := by rw [e2]; simp [h1]
    subst b2
    clear h1 e2
    go_wp2
    go_ret2
    exact ⟨rfl, by rw [uh HWR]; exact below_drewN (Below.refl _ _) _⟩
   ·have b1 : ((c : Int) == (g.size : Int)) = false := by simp; omega
    have b2 : Y = false := by rw [e2]; simp [h1]
    subst b2
    clear h1 e2
    go_wp2
    go_ret2
    exact ⟨rfl, by rw [uh HWR]; exact below_drewN (Below.refl _ _) _⟩
theorem hasB_succ (q : ByteArray) (x n : Nat) : ((List.range (n + 1)).any (fun i => pk q i == x)) = ((List.range n).any (fun i => pk q i == x) || (pk q n == x)) := by
 rw [List.range_succ, List.any_append]
 simp
set_option maxRecDepth 100000 in
set_option maxHeartbeats 16000000 in
theorem kasked_yes (g : Nat) (L : Lay) (s : ByteArray) (gh gt : Nat) (t0 t1 t2 t3 a0 a1 a2 a3 a4 : ByteArray) (m : Nat) (Q : Nat -> ByteArray) (w : World) (h : KPl w g L) (hh : w.heap[gh]? = some (z4s t0 t1 t2 t3)) (ha : w.heap[gt]? = some (toldO a0 a1 a2 a3 a4))
  (hA : AskOK L a0 a1 a2 a3 a4) (hs3 : t3.size <= 1000) (hbg : L.bgn <= s.size) (hs : s.size <= 64) (hm : s.size - L.bgn = 2 * m) (hs2 : t2.size = m) (hQ : ∀ j, j <= m -> (Q j).size <= 500) (_hLQ : L.Q <= 500)
  (hc : ∀ t, t < L.tns.length -> 48 + cntG t3 t <= pk a3 t)
  (hf : ∀ j, j < m -> AskJ L (pk (s.extract L.bgn s.size) (2 * j)) (pk (s.extract L.bgn s.size) (2 * j + 1)) (pk t2 j) (fun t => pk a3 t - 48 - cntG t3 t) (Q j) (Q (j + 1))) :
  Calls Tryz.prog 16 #[.pointer (some ⟨g, 0, none⟩), .string (Q 0), .string s, .pointer (some ⟨gh, 0, none⟩), .pointer (some ⟨gt, 0, none⟩)] w fun e w' => e = .returned (.tuple #[.string (Q m), .bool true]) /\ Below w.heap.size w w' := by
 have HCM := zh (z30 g L s w h hbg (by omega))
 have hcz : (s.extract L.bgn s.size).size = 2 * m := by rw [z1w]; exact hm
 have htn := hA.tn
 have s3 := hA.s3
 have HG := zh (fun (k : Nat) (wz : World) (hz : Below w.heap.size w wz) (hk : k <= 100) => z4y gh t0 t1 t2 t3 k wz ((hz.block gh (z0c hh)).trans hh) hs3 hk)
 have HKP := zh (fun (wz : World) (hz : Below w.heap.size w wz) => h.below hz)
 have HHH := zh (fun (wz : World) (hz : Below w.heap.size w wz) => (hz.block gh (z0c hh)).trans hh)
 have HAA := zh (fun (wz : World) (hz : Below w.heap.size w wz) => (hz.block gt (z0c ha)).trans ha)
 have HF := zh hf
 have HC := zh hc
 have HQ := zh hQ
 generalize s.extract L.bgn s.size = cs at *
 have hm32 : m <= 32 := by omega
 clear h hh ha hA hf hc hQ hbg hm
 go_enter Tryz.func16, Tryz.ntmps16
 go_wp2_with fail
 refine (uh HCM).mono ?_
 rintro e w1 ⟨rfl, m1, hw1⟩
 have HB1 := zh (show Below w.heap.size w w1 by rw [hw1]; exact below_drewN (Below.refl _ _) _)
 clear hw1 HCM
 go_wp2
 go_loopw [1, 13] (fun qv i wr => ∃ j : Nat, j <= m /\ qv = .string (Q j) /\ i = .int .i64 (2 * j : Nat) /\ Below w.heap.size w wr) (fun _ i _ => 2 * m - (intOf i).toNat)
 case atStart => exact ⟨0, Nat.zero_le _, rfl, rfl, uh HB1⟩
 case round =>
  obtain ⟨j, hj, rfl, rfl, hbr⟩ := hrel
  have HBR := zh hbr
  obtain ⟨q, hq⟩ : ∃ q, q = Q j := ⟨_, rfl⟩
  have hqs : q.size <= 500 := by rw [hq]; exact uh HQ j hj
  by_cases hlt : j < m
  ·have HJ := zh (uh HF j hlt)
   rw [<- hq] at HJ ⊢
   obtain ⟨i, hi⟩ : ∃ i, i = 2 * j := ⟨_, rfl⟩
   have hi1 : i + 1 < cs.size := by omega
   have hi0 : i < cs.size := by omega
   have hj2 : j < t2.size := by omega
   have HI := zh (And.intro hi hq)
   rw [<- hi] at HJ ⊢
   obtain ⟨c, hc⟩ : ∃ c, (cs[i]'hi0).toNat = c := ⟨_, rfl⟩
   obtain ⟨x, hx⟩ : ∃ c, (cs[i + 1]'hi1).toNat = c := ⟨_, rfl⟩
   obtain ⟨z, hz⟩ : ∃ c, (t2[j]'hj2).toNat = c := ⟨_, rfl⟩
   have hc' : pk cs i = c := (z0j cs i hi0).symm.trans hc
   have hx' : pk cs (i + 1) = x := (z0j cs (i + 1) hi1).symm.trans hx
   have hz' : pk t2 j = z := (z0j t2 j hj2).symm.trans hz
   rw [hc', hx', hz'] at HJ
   have hx256 : x < 256 := by rw [<- hx]; exact (cs[i + 1]'hi1).toNat_lt
   have l1 : (i : Int) + 1 < cs.size := by omega
   have l2 : (i : Int) < cs.size := by omega
   have l3 : (0 : Int) <= i := by omega
   have l4 : (0 : Int) <= (i : Int) + 1 := by omega
   have hii : i <= 200 := by omega
   clear hc' hx' hz' hq hbr
   rcases uh HJ with ⟨n1, n2⟩ | ⟨rfl, n2, n3, n4⟩
   ·have b1 : ((c : Int) != 114) = true := by simp; omega
    clear HJ hi
    go_wp2
    exact ⟨⟨j + 1, by omega, by rw [n2], by have := (uh HI).1; go_num, uh HBR⟩, by simp [intOf]; omega⟩
   ·clear HJ hi
    obtain ⟨t, ht⟩ : ∃ t, t = x - 49 := ⟨_, rfl⟩
    rw [<- ht] at n3 n4
    simp only at n4
    have eu : (x : Int) - 49 = t := by omega
    have ex : IntKind.i64.wrap (x : Int) = x := Go.IntWalk.i64_in _ (by omega)
    have hta : t < a3.size := by omega
    have hcc := uh HC t n3
    obtain ⟨vh, vp, vf, va, vk, vw, vs, vj, e, -, -, -, -, -, -, -, a8⟩ := uh HKP wr (uh HBR)
    obtain ⟨⟨-, -, c2, -, -, -, -, -, -, -, c10⟩, hg⟩ := z0n e
    obtain ⟨⟨-, -, y2, -⟩, hgh⟩ := z1i (uh HHH wr (uh HBR))
    obtain ⟨⟨-, -, -, z3, -⟩, -, hgt⟩ := z0m (uh HAA wr (uh HBR))
    obtain ⟨gj, oj, cj, ar, cr, ev, hgj, xr, hui⟩ := z3h a8 t (by simpa using n3)
    subst ev
    rw [tns_jny n3] at xr
    rw [List.length_map] at c10
    obtain ⟨a, haa⟩ : ∃ a, (a3[t]'hta).toNat = a := ⟨_, rfl⟩
    have ha' : pk a3 t = a := (z0j a3 t hta).symm.trans haa
    rw [ha'] at hcc n4
    have a256 : a < 256 := by rw [<- haa]; exact (a3[t]'hta).toNat_lt
    have ea : IntKind.i64.wrap (a : Int) = a := Go.IntWalk.i64_in _ (by omega)
    have HG1 := zh (fun (n : Nat) => uh HG t (wr.drewN n) (below_drewN (uh HBR) n) (by omega))
    generalize cntG t3 t = n0 at *
    obtain ⟨n, hn⟩ : ∃ n, n = a - 48 - n0 := ⟨_, rfl⟩
    obtain ⟨n48, h48⟩ : ∃ n48, n48 = a - 48 := ⟨_, rfl⟩
    have e1 : (a : Int) - 48 = n48 := by omega
    have e2 : (n48 : Int) - n0 = n := by omega
    rw [<- hn] at n4
    obtain ⟨jl, hjl⟩ : ∃ jl, jl = (L.tn t).jny.length := ⟨_, rfl⟩
    rw [<- hjl] at n4 xr
    obtain ⟨nt, hnt⟩ : ∃ nt, nt = L.tns.length := ⟨_, rfl⟩
    rw [<- hnt] at c10 n3 htn
    obtain ⟨lq, hlq⟩ : ∃ lq, lq = L.Q := ⟨_, rfl⟩
    rw [<- hlq] at c2 n4
    have m1 : (t : Int) < a3.size := by omega
    have m2 : (0 : Int) <= t := by omega
    have m3 : (t : Int) < nt := by omega
    have m4 : t <= 100 := by omega
    have m5 : n48 <= 256 := by omega
    have m6 : n <= 256 := by omega
    have m7 : n0 <= 256 := by omega
    have m8 : (j : Int) < t2.size := by omega
    have m9 : (0 : Int) <= j := by omega
    have HN4 := zh n4
    obtain ⟨q', hq'⟩ : ∃ q', q' = Q (j + 1) := ⟨_, rfl⟩
    rw [<- hq'] at HN4
    have HQ' := zh hq'
    clear ha' ht hn h48 hjl hnt hlq hui e a8 n4 hq' hcc
    go_wp2
    go_quiet ((go_at_call 20; exact Calls.quiet_of_same (uh HG1 _)))
    go_wp2
    go_loopw [17, 18] (fun b i' wq => ∃ k mm : Nat, k <= q.size /\ i' = .int .i64 k /\ b = .bool ((List.range k).any (fun i => pk q i == x)) /\ wq = wr.drewN mm) (fun _ i' _ => q.size - (intOf i').toNat)
    case atStart => exact ⟨0, nq, Nat.zero_le _, rfl, rfl, rfl⟩
    case round =>
     obtain ⟨k, mm, hk, rfl, rfl, hwq⟩ := hrel
     have HWQ := zh hwq
     by_cases hkt : k < q.size
     ·have hb := hasB_succ q x k
      obtain ⟨u, hu⟩ : ∃ u, (q[k]'hkt).toNat = u := ⟨_, rfl⟩
      have hu' : pk q k = u := (z0j q k hkt).symm.trans hu
      rw [hu'] at hb
      have u256 : u < 256 := by rw [<- hu]; exact (q[k]'hkt).toNat_lt
      have k1 : (k : Int) < q.size := by omega
      have k0 : (0 : Int) <= k := by omega
      obtain ⟨bk, hbk⟩ : ∃ b, b = (List.range k).any (fun i => pk q i == x) := ⟨_, rfl⟩
      rw [<- hbk] at hb ⊢
      have HB := zh hb
      clear hb hbk hu' hwq
      cases bk with
      | true =>
       go_wp2
       exact ⟨⟨k + 1, mm, by omega, by go_num, by rw [uh HB]; rfl, uh HWQ⟩, by simp [intOf]; omega⟩
      | false =>
       by_cases e : u = x
       ·subst e
        go_wp2
        exact ⟨⟨k + 1, mm, by omega, by go_num, by rw [uh HB]; simp, uh HWQ⟩, by simp [intOf]; omega⟩
       ·have b1 : ((u : Int) == (x : Int)) = false := by simp; omega
        go_wp2
        exact ⟨⟨k + 1, mm, by omega, by go_num, by rw [uh HB]; simp [e], uh HWQ⟩, by simp [intOf]; omega⟩
     ·have k1 : ¬ (k : Int) < q.size := by omega
      obtain rfl : k = q.size := by omega
      obtain ⟨bb, hbb⟩ : ∃ b, b = (List.range q.size).any (fun i => pk q i == x) := ⟨_, rfl⟩
      rw [<- hbb]
      have hbq : hasB q x = bb := hbb.symm
      rw [hbq] at HN4
      have d2 : wr.cell? ⟨g, 2, none⟩ = some (.int .i64 (lq : Nat)) := by rw [hwq]; exact c2
      have d10 : wr.cell? ⟨g, 10, none⟩ = some (.slice (some ⟨gj, oj, none⟩) nt cj) := by rw [hwq]; exact c10
      have dr : wr.cell? ⟨gj, oj + t, none⟩ = some (.slice ar jl cr) := by rw [hwq]; exact xr
      have dy : wr.cell? ⟨gh, 2, none⟩ = some (.string t2) := by rw [hwq]; exact y2
      have dg : g < wr.heap.size := by rw [hwq]; exact hg
      have dgj : gj < wr.heap.size := by rw [hwq]; exact hgj
      have dgh : gh < wr.heap.size := by rw [hwq]; exact hgh
      have HBW := zh (show Below w.heap.size w wr by rw [hwq]; exact below_drewN (uh HBR) _)
      have hi2 : i = 2 * j := (uh HI).1
      have v1 : Int.tdiv (i : Int) 2 = j := by rw [show Int.tdiv (i : Int) 2 = ((i / 2 : Nat) : Int) from (Int.ofNat_tdiv i 2).symm]; omega
      have v2 : (i : Int) / 2 = j := by omega
      have kc := Tryz.oneStr
      have HNX := zh (show Value.int .i64 ((i : Int) + 2) = .int .i64 ((2 * (j + 1) : Nat) : Int) by congr 1; omega)
      have hme : 2 * m - ((i : Int) + 2).toNat < 2 * m - i := by omega
      clear hbq hbb hwq hi2
      rcases uh HN4 with ⟨p1, p2, p3⟩ | ⟨p1, p2, p3, p4⟩ | ⟨p1, p2, p3, p4, p5⟩ | ⟨p1, p2, p3, p4, p5⟩
      ·have f1 : ((n : Int) == (jl : Int)) = true := by simp; omega
       subst p2
       clear HN4 p1
       go_wp2
       exact ⟨⟨j + 1, by omega, by rw [<- uh HQ', p3], uh HNX, uh HBW⟩, by simpa [intOf] using hme⟩
      ·have f1 : ((n : Int) == (jl : Int)) = false := by simp; omega
       subst p2 p3
       clear HN4 p1
       go_wp2
       exact ⟨⟨j + 1, by omega, by rw [<- uh HQ', p4], uh HNX, uh HBW⟩, by simpa [intOf] using hme⟩
      ·have f1 : ((n : Int) == (jl : Int)) = false := by simp; omega
       have f2 : ((q.size : Int) == (lq : Int)) = true := by simp; omega
       subst p2 p4
       clear HN4 p1 p3
       go_wp2
       exact ⟨⟨j + 1, by omega, by rw [<- uh HQ', p5], uh HNX, uh HBW⟩, by simpa [intOf] using hme⟩
      ·have f1 : ((n : Int) == (jl : Int)) = false := by simp; omega
       have f2 : ((q.size : Int) == (lq : Int)) = false := by simp; omega
       subst p2 p4
       have ga1 : ∀ o : Obj, (wr.alloc o).cell? ⟨gh, 2, none⟩ = some (.string t2) := fun o => ((z02 wr o).cell (p := ⟨gh, 2, none⟩) dgh).trans dy
       have ga2 : ∀ o : Obj, gh < (wr.alloc o).heap.size := fun o => by simp; omega
       clear HN4 p1 p3
       go_wp2
       exact ⟨⟨j + 1, by omega, by rw [<- uh HQ', p5], uh HNX, (uh HBW).trans ((z02 _ _).mono (uh HBW).size)⟩, by simpa [intOf] using hme⟩
  ·have l1 : ¬ ((2 * j : Nat) : Int) + 1 < cs.size := by omega
   have l1' : decide (((2 * j : Nat) : Int) + 1 < cs.size) = false := by simp; omega
   obtain rfl : j = m := by omega
   clear hbr
   go_wp2
   go_ret2
   exact ⟨rfl, uh HBR⟩
theorem KRun.jn {n : Nat} {w0 w : World} {D R : Nat -> Prop} {gb gp : Nat} {L : Lay} {C : RBx} (h : KRun n w0 w D R gb gp L C) (hW : JnOK C) (s : ByteArray) : JnOK (C.cyc s) := by
 by_cases hf : C.L.frameB s = true
 ·obtain ⟨S, e⟩ := h.stg hf
  rw [e]; exact hW.s4 S
 ·have e : C.cyc s = C := by unfold RBx.cyc; rw [if_neg hf]
  rw [e]; exact hW
theorem books_run {n : Nat} {w0 w : World} {D R : Nat -> Prop} {gb gp : Nat} {L : Lay} {C : RBx} (h : KRun n w0 w D R gb gp L C) (hJ : KJ C) (hN : JnOK C) {s : ByteArray} (hf : C.L.frameB s = true) (gh gw gt : Nat) :
  ∃ q : ByteArray, ∀ wz : World, KPl wz gp L -> wz.heap[gh]? = some (z4s (laS C s) (moS C s) (anS C s) (grS C s)) -> wz.heap[gw]? = some (toldO (lkS C) (phS C) (swS C) (atS C) (quS C)) -> wz.heap[gt]? = some (toldO (lkS (C.cyc s)) (phS (C.cyc s)) (swS (C.cyc s)) (atS (C.cyc s)) (quS (C.cyc s))) →
   Calls Tryz.prog 15 #[.pointer (some ⟨gp, 0, none⟩), .pointer (some ⟨gh, 0, none⟩), .pointer (some ⟨gw, 0, none⟩), .pointer (some ⟨gt, 0, none⟩)] wz (fun e w' => e = .returned (.bool true) /\ Below wz.heap.size wz w') ∧
   Calls Tryz.prog 16 #[.pointer (some ⟨gp, 0, none⟩), .string (quS C), .string s, .pointer (some ⟨gh, 0, none⟩), .pointer (some ⟨gt, 0, none⟩)] wz (fun e w' => e = .returned (.tuple #[.string q, .bool true]) /\ Below wz.heap.size wz w') ∧
   Calls Tryz.prog 17 #[.string q, .string (grS C s)] wz (fun e w' => e = .returned (.tuple #[.string (quS (C.cyc s)), .bool true]) /\ Below wz.heap.size wz w') ∧
   Calls Tryz.prog 18 #[.pointer (some ⟨gp, 0, none⟩), .string s, .pointer (some ⟨gh, 0, none⟩), .pointer (some ⟨gt, 0, none⟩)] wz (fun e w' => e = .returned (.bool true) /\ w' = wz) := by
 obtain ⟨S, e4⟩ := h.stg hf
 have hJ4 := h.kj hJ s
 have hN4 := h.jn hN s
 have hHO := h.hear hf
 have hi := h.box.inv
 have hA0 := h.box.inv.askOK
 have eL := h.eL
 subst eL
 rw [e4] at hJ4 hN4 ⊢
 have hA := S.i4.askOK
 rw [S.l4] at hA
 have hg := (z2t C.L s).1 hf
 obtain ⟨z1, z2, z3, -, -⟩ := z3d C.L s hf
 have hcs : (C.L.frOf s).cmds = s.extract C.L.bgn s.size := rfl
 have hsq : ∀ j, j <= (C.L.frOf s).cmds.size / 2 -> (quN C (C.L.frOf s) j).size <= 500 := by
  intro j hj
  unfold quN
  rw [z0q, List.length_map]
  have h1 := (S.d j hj).wq
  have h2 := (S.d j hj).lay.Q
  omega
 refine ⟨quN C (C.L.frOf s) ((C.L.frOf s).cmds.size / 2), fun wz hk hh hb ha => ⟨?_, ?_, ?_, ?_⟩⟩
 ·refine (kcounted_yes gp C.L gh gw gt _ _ _ _ _ _ _ _ _ _ _ _ _ _ wz hk hh hb ha hA hA0 hHO.s3 (fun t ht => counted_facts S hi hJ.ph hN ht)).mono ?_
  rintro e w' ⟨e1, m, e2⟩
  exact ⟨e1, by rw [e2]; exact below_drewN (Below.refl _ _) m⟩
 ·have hf2 := fun j hj => asked_facts S (j := j) hj
  rw [hcs] at hf2
  have := kasked_yes gp C.L s gh gt _ _ _ _ _ _ _ _ _ ((C.L.frOf s).cmds.size / 2) (quN C (C.L.frOf s)) wz hk hh ha hA hHO.s3 hg.ge z1 (by rw [z3]; omega) (by rw [hHO.s2, z3]) hsq (by have := hi.lay.Q; omega) (fun t ht => (counted_facts S hi hJ.ph hN ht).2.1) (fun j hj => hf2 j (by rw [<- hcs]; exact hj))
  rw [quN_zero] at this
  exact this
 ·obtain ⟨f1, f2⟩ := served_facts S
  have := kserved_any (quN C (C.L.frOf s) ((C.L.frOf s).cmds.size / 2)) (grS C s) wz (by have := hsq _ (Nat.le_refl _); omega) hHO.s3
  rw [f1, f2] at this
  refine this.mono ?_
  rintro e w' ⟨e1, e2⟩
  exact ⟨by rw [e1]; simp, e2⟩
 ·refine kgiven_yes gp C.L s gh gt _ _ _ _ _ _ _ _ _ wz hk hh ha hA hHO.s3 (fun r x hr hx => ?_) (by have := hg.ge; unfold Lay.bgn at this; omega) (fun i hi => given_facts S hJ4 hN4 hf hi)
  obtain ⟨y, hy, e⟩ := List.mem_map.1 (show x ∈ (C.L.rt r).path.map (·.1) from hx)
  rw [<- e]; exact ((hi.rt hr).ps y hy).1
def KBk (n : Nat) (w wr : World) (R : Nat -> Prop) (gb gp gw : Nat) (L : Lay) : Prop := ∃ C D, KRun n w wr D R gb gp L C /\ KJ C /\ JnOK C /\ wr.heap[gw]? = some (toldO (lkS C) (phS C) (swS C) (atS C) (quS C)) /\ ¬ D gw
set_option maxRecDepth 100000 in
set_option maxHeartbeats 8000000 in
theorem Books_any (s : ByteArray) (ao : Option Addr) (len cap : Nat) (zs : List ByteArray) (w : World) (hF : FrsOK w ao len zs) :
  Calls Tryz.prog 4 #[.string s, .slice ao len cap] w fun e w' => e = .returned (.bool true) /\ Below w.heap.size w w' := by
 have H1 := zh (z2o s w)
 obtain ⟨⟨hlm, hF⟩, hsz⟩ := hF
 unfold maxLen at hlm
 have HFR := zh hF
 have HSZ := zh hsz
 clear hF hsz
 go_enter Tryz.func4, Tryz.ntmps4
 go_wp2_with fail
 refine (uh H1).mono ?_
 rintro e w1 hOp
 rcases hOp with ⟨-, rfl, hb1⟩ | ⟨h0, gb, gp, D, R, rfl, hK⟩
 ·have HB1 := zh hb1
  clear hb1
  go_wp2
  go_ret
  exact ⟨rfl, uh HB1⟩
 ·have HA0 := zh hK.ask
  have HK0 := zh hK
  clear hK H1 h0
  go_wp2_with fail
  refine (uh HA0).mono ?_
  rintro e w0 ⟨g0, rfl, hg0, ht0, hb0⟩
  have HM0 := zh (show KBk w.heap.size w w0 R gb gp g0 (layOf s.data.toList) from ⟨_, D, (uh HK0).below hb0 (Nat.le_refl _), KJ.init _, JnOK.init _, ht0, fun hd => by have := (uh HK0).box.lt g0 hd; omega⟩)
  obtain ⟨⟨-, -, -, -, q4⟩, -, hg0'⟩ := z0m ht0
  have q4' : w0.cell? ⟨g0, 4, none⟩ = some (.string ByteArray.empty) := q4
  generalize layOf s.data.toList = L at *
  clear HA0 HK0 ht0 hb0 hg0 q4
  go_wp2
  go_loopw [8, 10] (fun v i wr => ∃ m gw : Nat, v = .pointer (some ⟨gw, 0, none⟩) /\ i = .int .i64 m /\ m <= len /\ KBk w.heap.size w wr R gb gp gw L) (fun _ i _ => len - (intOf i).toNat)
  case atStart => exact ⟨0, g0, rfl, rfl, Nat.zero_le _, uh HM0⟩
  case round =>
   obtain ⟨m, gw, rfl, rfl, hm, hM⟩ := hrel
   clear q4' hg0'
   by_cases hlt : m < len
   ·obtain ⟨C, D, hK, hJ, hN, hto0, hnd⟩ := hM
    rcases uh HFR with h | ⟨g, off, rfl, hc⟩
    ·omega
    have hcm0 := hc m hlt
    have hbk : g < w.heap.size := by
     rcases Nat.lt_or_ge g w.heap.size with h | h
     ·exact h
     ·unfold World.cell? at hcm0
      simp [Array.getElem?_eq_none h] at hcm0
    have hszm := uh HSZ m
    generalize zs.getD m ByteArray.empty = fr at *
    have hcm : ∀ wz, Below w.heap.size w wz -> wz.cell? ⟨g, off + m, none⟩ = some (.string fr) := fun wz hz => (hz.cell (p := ⟨g, off + m, none⟩) hbk).trans hcm0
    have hgz : ∀ wz, Below w.heap.size w wz -> g < wz.heap.size := fun wz hz => by have := hz.size; omega
    have HCM := zh hcm
    have HGZ := zh hgz
    have c1 := hcm wr hK.be
    have g1 := hgz wr hK.be
    have l0 : (0 : Int) <= m := by omega
    have l1 : (m : Int) < len := by omega
    have HC := zh (hK.cyc (Nat.le_refl _) fr)
    have HK := zh hK
    have HJ := zh hJ
    have HN := zh hN
    have HJ2 := zh (hK.kj hJ fr)
    have HN2 := zh (hK.jn hN fr)
    have HTO0 := zh hto0
    have HND := zh hnd
    clear hc hcm0 hcm hgz hK hJ hN hto0 hnd HM0
    go_wp2_with fail
    refine (uh HC).mono ?_
    rintro e w2 ⟨rfl, hK2, ho2⟩
    have HK2 := zh hK2
    have HTO2 := zh ((ho2.block gw (z0c (uh HTO0)) (uh HND)).trans (uh HTO0))
    have c2 := uh HCM w2 hK2.be
    have g2 := uh HGZ w2 hK2.be
    have HH := zh (z5e (w := w2) (uh HK) hK2.plan.at fr hszm)
    clear hK2 ho2 c1 g1 HC
    go_wp2_with fail
    refine (uh HH).mono ?_
    rintro e w3 hH
    rcases hH with ⟨hf, gh, rfl, hgh, hho, hb3⟩ | ⟨hf, rfl, hb3⟩
    ·have HK3 := zh ((uh HK2).below hb3 (Nat.le_refl _))
     have HA := zh ((uh HK3).ask)
     have HHO := zh hho
     have HF := zh hf
     have HTO3 := zh ((hb3.block gw (z0c (uh HTO2))).trans (uh HTO2))
     have hz3 := hb3.size
     clear hho hb3 c2 g2 HH hf
     go_wp2_with fail
     refine (uh HA).mono ?_
     rintro e w4 ⟨gt, rfl, hgt, hto, hb4⟩
     have HK4 := zh ((uh HK3).below hb4 (Nat.le_refl _))
     have HHO4 := zh ((hb4.block gh (z0c (uh HHO))).trans (uh HHO))
     have HTO4 := zh ((hb4.block gw (z0c (uh HTO3))).trans (uh HTO3))
     have HTO := zh hto
     have HFN := zh (show ¬ _ from fun hd => by have := (uh HK2).box.lt gt hd; omega)
     obtain ⟨q, hq⟩ := books_run (uh HK) (uh HJ) (uh HN) (uh HF) gh gw gt
     have HR := zh (fun (wz : World) (hz : Below w4.heap.size w4 wz) => hq wz ((uh HK4).below hz (Nat.le_refl _)).plan.at ((hz.block gh (z0c (uh HHO4))).trans (uh HHO4)) ((hz.block gw (z0c (uh HTO4))).trans (uh HTO4)) ((hz.block gt (z0c (uh HTO))).trans (uh HTO)))
     clear hto hb4 HA hz3 hq
     have HR4 := zh (uh HR w4 (Below.refl _ _)).1
     go_wp2_with fail
     refine (uh HR4).mono ?_
     rintro e w5 ⟨rfl, hb5⟩
     have HB5 := zh hb5
     have HR5 := zh (uh HR w5 hb5).2.1
     have HTO5 := zh ((hb5.block gw (z0c (uh HTO4))).trans (uh HTO4))
     have c5 := uh HCM w5 ((uh HK4).below hb5 (Nat.le_refl _)).be
     have g5 := uh HGZ w5 ((uh HK4).below hb5 (Nat.le_refl _)).be
     obtain ⟨⟨-, -, -, -, y4⟩, -, hgw5⟩ := z0m (uh HTO5)
     clear hb5 HR4
     go_wp2
     go_region_with (first | (go_at_call 16; refine (uh HR _ ?_).2.1.mono ?_; (first | exact (uh HB5).drew | exact (uh HB5).drew.drew | exact uh HB5); rintro e w6 ⟨rfl, hb6⟩; have HB6' := zh hb6; clear hb6) | fail)
     all_goals
      have HB6 := zh (show Below w4.heap.size w4 w6 by
       first
        | exact (uh HB5).drew.trans ((uh HB6').mono (uh HB5).drew.size)
        | exact (uh HB5).drew.drew.trans ((uh HB6').mono (uh HB5).drew.drew.size)
        | exact (uh HB5).trans ((uh HB6').mono (uh HB5).size))
      have HR6 := zh (uh HR w6 (uh HB6)).2.2.1
      obtain ⟨⟨-, -, -, x3⟩, hgh6⟩ := z1i (((uh HB6).block gh (z0c (uh HHO4))).trans (uh HHO4))
      clear HB6' HR5 c5 g5 y4 hgw5
      go_wp2_with fail
      refine (uh HR6).mono ?_
      rintro e w7 ⟨rfl, hb7⟩
      have HB7 := zh ((uh HB6).trans (hb7.mono (uh HB6).size))
      have HR7 := zh (uh HR w7 (uh HB7)).2.2.2
      have c7 := uh HCM w7 ((uh HK4).below (uh HB7) (Nat.le_refl _)).be
      have g7 := uh HGZ w7 ((uh HK4).below (uh HB7) (Nat.le_refl _)).be
      have HTO7 := zh (((uh HB7).block gt (z0c (uh HTO))).trans (uh HTO))
      obtain ⟨⟨-, -, -, -, y5⟩, -, hgt7⟩ := z0m (uh HTO7)
      have HKM := zh (show KBk w.heap.size w w7 R gb gp gt L from ⟨_, _, (uh HK4).below (uh HB7) (Nat.le_refl _), uh HJ2, uh HN2, uh HTO7, uh HFN⟩)
      clear hb7 HR6 x3 hgh6
      go_wp2_with fail
      refine (uh HR7).mono ?_
      rintro e w8 ⟨rfl, rfl⟩
      go_wp2
      exact ⟨⟨m + 1, gt, rfl, by go_num, by omega, uh HKM⟩, by simp [intOf]; omega⟩
    ·have HK3 := zh ((uh HK2).below hb3 (Nat.le_refl _))
     have HA := zh ((uh HK3).ask)
     have hz3 := hb3.size
     clear hb3 c2 g2 HH hf
     go_wp2_with fail
     refine (uh HA).mono ?_
     rintro e w4 ⟨gt, rfl, hgt, hto, hb4⟩
     have HKM := zh (show KBk w.heap.size w w4 R gb gp gt L from ⟨_, _, (uh HK3).below hb4 (Nat.le_refl _), uh HJ2, uh HN2, hto, fun hd => by have := (uh HK2).box.lt gt hd; omega⟩)
     clear hto hb4 HA hz3
     go_wp2
     exact ⟨⟨m + 1, gt, rfl, by go_num, by omega, uh HKM⟩, by simp [intOf]; omega⟩
   ·have l1 : ¬ (m : Int) < len := by omega
    have HB := zh (show Below w.heap.size w wr by obtain ⟨C, D, hK, -⟩ := hM; exact hK.be)
    clear hM HM0
    go_wp2
    go_ret
    exact ⟨rfl, uh HB⟩
end Go.Proofs.YtkbpocecbcaiiabGreatDoor
