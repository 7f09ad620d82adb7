import Derived.Test.YtkbpocecbcaiiabGreatDoorO12
namespace Go.Proofs.YtkbpocecbcaiiabGreatDoor
open Go.RowKit
theorem timesZ_nat (l : List Nat) (s : Nat) : z26 l s = ((l.filter (· == s)).length : Int) := by
 unfold z26
 have : (fun y : Nat => ((y : Int) == (s : Int))) = (· == s) := by
  funext y; rw [Bool.eq_iff_iff]; simp; omega
 rw [this]
theorem secs_at (p : List (Nat × Nat)) (k : Nat) (h : k < p.length) (h' : k < (secs p).length) : (secs p)[k] = (p.getD k (0, 0)).1 := by
 simp [secs, List.getD_eq_getElem?_getD, List.getElem?_eq_getElem h]
theorem signs_at (p : List (Nat × Nat)) (k : Nat) (h : k < p.length) (h' : k < (signs p).length) : (signs p)[k] = (p.getD k (0, 0)).2 := by
 simp [signs, List.getD_eq_getElem?_getD, List.getElem?_eq_getElem h]
theorem z3v (p : Nat -> Bool) (n : Nat) : (List.range (n + 1)).any p = ((List.range n).any p || p n) := by
 rw [List.range_succ, List.any_append]; simp
theorem z3w (p : Nat -> Bool) (n k : Nat) (h : k < n) (hp : p k = true) : (List.range n).any p = true :=
 List.any_eq_true.2 ⟨k, List.mem_range.2 h, hp⟩
theorem sw_at (l : List Bool) (s : Nat) (h : s < l.length) : l.getD s false = l[s] := by
 simp [List.getD_eq_getElem?_getD, List.getElem?_eq_getElem h]
set_option maxHeartbeats 4000000 in
theorem crooked_any (v : Value) (L : Lay) (r : Rt) (vp vs vf vl : Value) (w : World) (h : RPlan w v L) (hr : CRRt w r [.int .i64 r.foot, vp, vs, vf, vl]) (hp : L.Paths) :
  Calls Tryz.prog 96 #[v, .agg #[.int .i64 r.foot, vp, vs, vf, vl]] w fun e w' => e = .returned (.bool (L.crooked r)) /\ Below w.heap.size w w' := by
 have HR := zh h
 obtain ⟨vh, vr, vt, rfl, hH, -, -⟩ := h
 obtain ⟨aoh, caph, rfl, h1, h2, h3⟩ := SlAt.open hH
 obtain ⟨_, _, _, _, he, hP, hS, hF, hL⟩ := hr
 simp only [List.cons.injEq, and_true, true_and] at he
 obtain ⟨rfl, rfl, rfl, rfl⟩ := he
 have HP := zh hP
 have HF := zh hF
 obtain ⟨aop, capp, rfl, p1, p2, p3⟩ := SlAt.open hP
 obtain ⟨aos, caps, rfl, s1, s2, s3⟩ := SlAt.open hS
 obtain ⟨aof, capf, rfl, f1, f2, f3⟩ := SlAt.open hF
 have HPS := zh hp
 clear hH hP hS hF hL hp
 unfold maxLen at h2 p2 s2 f2
 generalize hzz : L.crooked r = z
 have HZ := zh hzz
 clear hzz
 by_cases c0 : L.sw.length <= r.foot
 ·have hz := zh (show z = true by rw [<- uh HZ]; simp [Lay.crooked, c0])
  clear h3 p3 s3 f3
  go_enter Tryz.func96, Tryz.ntmps96
  go_wp2
  go_ret
  exact ⟨z04 (uh hz).symm, z08 (Below.refl _ _)⟩
 have HZ2 := zh (show z = ((List.range r.path.length).any (L.badPath r) || (List.range r.flank.length).any (L.badFlank r)) by rw [<- uh HZ]; simp [Lay.crooked, c0])
 clear HZ
 have hpl : (secs r.path).length = r.path.length := by simp [secs]
 have hsl : (signs r.path).length = r.path.length := by simp [signs]
 have hfl : (secs r.flank).length = r.flank.length := by simp [secs]
 have HPL := zh hpl
 have HSL := zh hsl
 have HFL := zh hfl
 clear hpl hsl hfl
 go_enter Tryz.func96, Tryz.ntmps96
 go_wp2
 go_loopw [5] (fun i wr => ∃ k : Nat, k <= (secs r.path).length /\ i = .int .i64 k /\ (List.range k).any (L.badPath r) = false ∧
   Below (w.heap.size + 2) ((w.alloc (z1k L (.slice aoh L.sw.length caph) vr vt)).alloc (rrtBox r (.slice aop (secs r.path).length capp) (.slice aos (signs r.path).length caps) (.slice aof (secs r.flank).length capf) vl)) wr) (fun i _ => (secs r.path).length - (intOf i).toNat)
 case atStart => exact ⟨0, Nat.zero_le _, rfl, rfl, Below.refl _ _⟩
 case round =>
  obtain ⟨k, hk, rfl, hz, hb⟩ := hrel
  have HQ := zh hz
  have HB := zh hb
  obtain ⟨q0, q1, q2, q3, q4, q5⟩ := z2s hb
  obtain ⟨y0, y1, y2, y3, y4⟩ := two_rrt hb
  have qs := z1r hb
  clear hz
  by_cases hlt : k < (secs r.path).length
  ·have hlt' : k < r.path.length := by have := uh HPL; omega
   have hlts : k < (signs r.path).length := by have := uh HSL; omega
   obtain ⟨gp, offp, hao, hgp, cs, -, hC, hc⟩ := p3 k hlt
   subst hao
   unfold CInt at hC
   subst hC
   have hc0 := hc 0 (by omega)
   rw [<- (z08 hb).cell (p := ⟨gp, _, none⟩) hgp] at hc0
   obtain ⟨gs, offs, hao, hgs, cs2, -, hC2, hd⟩ := s3 k hlts
   subst hao
   unfold CByte at hC2
   subst hC2
   have hd0 := hd 0 (by omega)
   rw [<- (z08 hb).cell (p := ⟨gs, _, none⟩) hgs] at hd0
   have HBP := zh (show L.badPath r k = (decide (L.sw.length <= (secs r.path)[k]) || decide ((1 : Int) < z26 (secs r.path) (secs r.path)[k]) || (secs r.path)[k] == r.foot || (L.sw.getD (secs r.path)[k] false != ((signs r.path)[k] != 0))) by
    rw [timesZ_nat, secs_at _ _ hlt' hlt, signs_at _ _ hlt' hlts, Lay.badPath]
    congr 3
    rw [decide_eq_decide]; omega)
   have HIP := zh ((uh HP).below (z08 hb))
   simp at hc0 hd0
   clear hc hd p3 s3 f3 hb
   generalize (secs r.path)[k] = s at *
   generalize (signs r.path)[k] = sg at *
   generalize htz : z26 (secs r.path) s = n at *
   have HT := zh htz
   clear htz
   have hb3 := zh (z08 (uh HB))
   have HTR := zh (fun (h : L.badPath r k = true) => show z = true by rw [uh HZ2, z3w _ _ k hlt' h, Bool.true_or])
   by_cases c1 : L.sw.length <= s
   ·have hz := zh (uh HTR (by rw [uh HBP]; simp [c1]))
    have d1 : decide ((L.sw.length : Int) <= (s : Int)) = true := by simp; omega
    go_wp2_with (go_at_call 138; refine (z12 _ _ _ _ (uh HIP)).mono ?_; rw [uh HT]; rintro e w' ⟨rfl, rfl⟩)
    go_quiet (fail)
    go_wp2
    go_ret
    exact ⟨z04 (uh hz).symm, below_drewN (uh hb3) _⟩
   have d1 : decide ((L.sw.length : Int) <= (s : Int)) = false := by simp; omega
   by_cases c2 : 1 < n
   ·have hz := zh (uh HTR (by rw [uh HBP]; simp [c2]))
    have d2 : decide ((1 : Int) < n) = true := by simp; omega
    go_wp2_with (go_at_call 138; refine (z12 _ _ _ _ (uh HIP)).mono ?_; rw [uh HT]; rintro e w' ⟨rfl, rfl⟩)
    go_quiet (fail)
    go_wp2
    go_ret
    exact ⟨z04 (uh hz).symm, below_drewN (uh hb3) _⟩
   have d2 : decide ((1 : Int) < n) = false := by simp; omega
   by_cases c3 : s = r.foot
   ·have hz := zh (uh HTR (by rw [uh HBP]; simp [c3]))
    have d3 : ((s : Int) == (r.foot : Int)) = true := by simp; omega
    clear c3
    go_wp2_with (go_at_call 138; refine (z12 _ _ _ _ (uh HIP)).mono ?_; rw [uh HT]; rintro e w' ⟨rfl, rfl⟩)
    go_quiet (fail)
    go_wp2
    go_ret
    exact ⟨z04 (uh hz).symm, below_drewN (uh hb3) _⟩
   have d3 : ((s : Int) == (r.foot : Int)) = false := by simp; omega
   have hss : s < L.sw.length := by omega
   obtain ⟨gh, offh, hao, hgh, cs3, -, hC3, he⟩ := h3 s hss
   subst hao
   unfold CBool at hC3
   subst hC3
   have he0 := he 0 (by omega)
   rw [<- (z08 (uh HB)).cell (p := ⟨gh, _, none⟩) hgh] at he0
   rw [sw_at _ _ hss] at HBP
   simp at he0
   clear he h3
   generalize L.sw[s] = b at *
   have hBP := zh (show L.badPath r k = (b != (sg != 0)) by rw [uh HBP]; simp [c1, c2, c3])
   clear HBP
   have hz0 : (0 : Int) <= s := by omega
   have hz1 : (s : Int) < L.sw.length := by omega
   have HAS := zh (z3v (L.badPath r) k)
   have hbc : b = true \/ b = false := by cases b <;> simp
   rcases hbc with rfl | rfl <;> by_cases hs0 : sg = 0
   ·have hz := zh (uh HTR (by rw [uh hBP]; simp [hs0]))
    have d4 : ((sg : Int) != 0) = false := by simp; omega
    clear hs0
    go_wp2_with (go_at_call 138; refine (z12 _ _ _ _ (uh HIP)).mono ?_; rw [uh HT]; rintro e w' ⟨rfl, rfl⟩)
    go_quiet (fail)
    go_wp2
    go_ret
    exact ⟨z04 (uh hz).symm, below_drewN (uh hb3) _⟩
   ·have hz := zh (show L.badPath r k = false by rw [uh hBP]; simp [hs0])
    have d4 : ((sg : Int) != 0) = true := by simp; omega
    clear hs0
    go_wp2_with (go_at_call 138; refine (z12 _ _ _ _ (uh HIP)).mono ?_; rw [uh HT]; rintro e w' ⟨rfl, rfl⟩)
    go_quiet (fail)
    go_wp2
    exact ⟨⟨k + 1, by omega, by go_num, by rw [uh HAS, uh HQ, uh hz]; rfl, below_drewN (uh HB) _⟩, by simp [intOf]; omega⟩
   ·have hz := zh (show L.badPath r k = false by rw [uh hBP]; simp [hs0])
    have d4 : ((sg : Int) != 0) = false := by simp; omega
    clear hs0
    go_wp2_with (go_at_call 138; refine (z12 _ _ _ _ (uh HIP)).mono ?_; rw [uh HT]; rintro e w' ⟨rfl, rfl⟩)
    go_quiet (fail)
    go_wp2
    exact ⟨⟨k + 1, by omega, by go_num, by rw [uh HAS, uh HQ, uh hz]; rfl, below_drewN (uh HB) _⟩, by simp [intOf]; omega⟩
   ·have hz := zh (uh HTR (by rw [uh hBP]; simp [hs0]))
    have d4 : ((sg : Int) != 0) = true := by simp; omega
    clear hs0
    go_wp2_with (go_at_call 138; refine (z12 _ _ _ _ (uh HIP)).mono ?_; rw [uh HT]; rintro e w' ⟨rfl, rfl⟩)
    go_quiet (fail)
    go_wp2
    go_ret
    exact ⟨z04 (uh hz).symm, below_drewN (uh hb3) _⟩
  ·have HZ3 := zh (show z = (List.range r.flank.length).any (L.badFlank r) by
    have hk' : k = r.path.length := by have := uh HPL; omega
    rw [uh HZ2, <- hk', uh HQ, Bool.false_or])
   clear HZ2 hb
   go_wp2
   go_loopw [8] (fun i wr => ∃ k : Nat, k <= (secs r.flank).length /\ i = .int .i64 k /\ (List.range k).any (L.badFlank r) = false ∧
     Below (w.heap.size + 2) ((w.alloc (z1k L (.slice aoh L.sw.length caph) vr vt)).alloc (rrtBox r (.slice aop (secs r.path).length capp) (.slice aos (signs r.path).length caps) (.slice aof (secs r.flank).length capf) vl)) wr) (fun i _ => (secs r.flank).length - (intOf i).toNat)
   case atStart => exact ⟨0, Nat.zero_le _, rfl, rfl, uh HB⟩
   case round =>
   clear HQ HB q0 q1 q2 q3 q4 q5 y0 y1 y2 y3 y4 qs hk hlt
   obtain ⟨k, hk, rfl, hz, hb⟩ := hrel
   have HQ := zh hz
   have HB := zh hb
   obtain ⟨q0, q1, q2, q3, q4, q5⟩ := z2s hb
   obtain ⟨y0, y1, y2, y3, y4⟩ := two_rrt hb
   have qs := z1r hb
   clear hz
   by_cases hlt : k < (secs r.flank).length
   ·have hlt' : k < r.flank.length := by have := uh HFL; omega
    obtain ⟨gf, offf, hao, hgf, cs, -, hC, hc⟩ := f3 k hlt
    subst hao
    unfold CInt at hC
    subst hC
    have hc0 := hc 0 (by omega)
    rw [<- (z08 hb).cell (p := ⟨gf, _, none⟩) hgf] at hc0
    have HBP := zh (show L.badFlank r k = (decide (L.sw.length <= (secs r.flank)[k]) || decide ((1 : Int) < z26 (secs r.flank) (secs r.flank)[k]) || decide ((0 : Int) < z26 (secs r.path) (secs r.flank)[k]) || L.endsB (secs r.flank)[k] || !L.sw.getD (secs r.flank)[k] false) by
     rw [times_has, timesZ_nat, secs_at _ _ hlt' hlt, Lay.badFlank]
     congr 4
     rw [decide_eq_decide]; omega)
    have HIP := zh ((uh HP).below (z08 hb))
    have HIF := zh ((uh HF).below (z08 hb))
    simp at hc0
    clear hc p3 s3 f3 hb
    generalize (secs r.flank)[k] = s at *
    generalize htz : z26 (secs r.flank) s = n at *
    have HT := zh htz
    clear htz
    generalize htz : z26 (secs r.path) s = m at *
    have HM := zh htz
    clear htz
    generalize htz : L.endsB s = eb at *
    have HE := zh htz
    clear htz
    have HTR := zh (fun (h : L.badFlank r k = true) => show z = true by rw [uh HZ3]; exact z3w _ _ k hlt' h)
    have HAS := zh (z3v (L.badFlank r) k)
    by_cases c1 : L.sw.length <= s
    ·have hz := zh (uh HTR (by rw [uh HBP]; simp [c1]))
     have d1 : decide ((L.sw.length : Int) <= (s : Int)) = true := by simp; omega
     go_wp2_with fail
     refine (z12 _ _ _ _ (uh HIF)).mono ?_
     rw [uh HT]
     rintro e w' ⟨rfl, rfl⟩
     go_wp2_with fail
     refine (z12 _ _ _ _ (uh HIP)).mono ?_
     rw [uh HM]
     rintro e w' ⟨rfl, rfl⟩
     go_wp2_with fail
     refine (ends_any _ L s _ ((uh HR).below (z08 (uh HB))) (uh HPS)).mono ?_
     rw [uh HE]
     rintro e w1 ⟨rfl, hb1⟩
     have hb5 := (uh HB).trans (hb1.mono (B' := w.heap.size + 2) (by omega))
     clear q0 q1 q2 q3 q4 q5 y0 y1 y2 y3 y4 hc0
     obtain ⟨q0, q1, q2, q3, q4, q5⟩ := z2s hb5
     have hb6 := zh (z08 hb5)
     have HB5 := zh hb5
     clear hb1 hb5
     go_wp2
     go_ret
     exact ⟨z04 (uh hz).symm, uh hb6⟩
    have d1 : decide ((L.sw.length : Int) <= (s : Int)) = false := by simp; omega
    by_cases c2 : 1 < n
    ·have hz := zh (uh HTR (by rw [uh HBP]; simp [c2]))
     have d2 : decide ((1 : Int) < n) = true := by simp; omega
     go_wp2_with fail
     refine (z12 _ _ _ _ (uh HIF)).mono ?_
     rw [uh HT]
     rintro e w' ⟨rfl, rfl⟩
     go_wp2_with fail
     refine (z12 _ _ _ _ (uh HIP)).mono ?_
     rw [uh HM]
     rintro e w' ⟨rfl, rfl⟩
     go_wp2_with fail
     refine (ends_any _ L s _ ((uh HR).below (z08 (uh HB))) (uh HPS)).mono ?_
     rw [uh HE]
     rintro e w1 ⟨rfl, hb1⟩
     have hb5 := (uh HB).trans (hb1.mono (B' := w.heap.size + 2) (by omega))
     clear q0 q1 q2 q3 q4 q5 y0 y1 y2 y3 y4 hc0
     obtain ⟨q0, q1, q2, q3, q4, q5⟩ := z2s hb5
     have hb6 := zh (z08 hb5)
     have HB5 := zh hb5
     clear hb1 hb5
     go_wp2
     go_ret
     exact ⟨z04 (uh hz).symm, uh hb6⟩
    have d2 : decide ((1 : Int) < n) = false := by simp; omega
    by_cases c3 : 0 < m
    ·have hz := zh (uh HTR (by rw [uh HBP]; simp [c3]))
     have d3 : decide ((0 : Int) < m) = true := by simp; omega
     go_wp2_with fail
     refine (z12 _ _ _ _ (uh HIF)).mono ?_
     rw [uh HT]
     rintro e w' ⟨rfl, rfl⟩
     go_wp2_with fail
     refine (z12 _ _ _ _ (uh HIP)).mono ?_
     rw [uh HM]
     rintro e w' ⟨rfl, rfl⟩
     go_wp2_with fail
     refine (ends_any _ L s _ ((uh HR).below (z08 (uh HB))) (uh HPS)).mono ?_
     rw [uh HE]
     rintro e w1 ⟨rfl, hb1⟩
     have hb5 := (uh HB).trans (hb1.mono (B' := w.heap.size + 2) (by omega))
     clear q0 q1 q2 q3 q4 q5 y0 y1 y2 y3 y4 hc0
     obtain ⟨q0, q1, q2, q3, q4, q5⟩ := z2s hb5
     have hb6 := zh (z08 hb5)
     have HB5 := zh hb5
     clear hb1 hb5
     go_wp2
     go_ret
     exact ⟨z04 (uh hz).symm, uh hb6⟩
    have d3 : decide ((0 : Int) < m) = false := by simp; omega
    have hec : eb = true \/ eb = false := by cases eb <;> simp
    rcases hec with rfl | rfl
    ·have hz := zh (uh HTR (by rw [uh HBP]; simp))
     go_wp2_with fail
     refine (z12 _ _ _ _ (uh HIF)).mono ?_
     rw [uh HT]
     rintro e w' ⟨rfl, rfl⟩
     go_wp2_with fail
     refine (z12 _ _ _ _ (uh HIP)).mono ?_
     rw [uh HM]
     rintro e w' ⟨rfl, rfl⟩
     go_wp2_with fail
     refine (ends_any _ L s _ ((uh HR).below (z08 (uh HB))) (uh HPS)).mono ?_
     rw [uh HE]
     rintro e w1 ⟨rfl, hb1⟩
     have hb5 := (uh HB).trans (hb1.mono (B' := w.heap.size + 2) (by omega))
     clear q0 q1 q2 q3 q4 q5 y0 y1 y2 y3 y4 hc0
     obtain ⟨q0, q1, q2, q3, q4, q5⟩ := z2s hb5
     have hb6 := zh (z08 hb5)
     have HB5 := zh hb5
     clear hb1 hb5
     go_wp2
     go_ret
     exact ⟨z04 (uh hz).symm, uh hb6⟩
    have hss : s < L.sw.length := by omega
    obtain ⟨gh, offh, hao, hgh, cs3, -, hC3, he⟩ := h3 s hss
    subst hao
    unfold CBool at hC3
    subst hC3
    have he0 := he 0 (by omega)
    rw [sw_at _ _ hss] at HBP
    simp at he0
    clear he h3
    generalize L.sw[s] = b at *
    have hBP := zh (show L.badFlank r k = !b by rw [uh HBP]; simp [c1, c2, c3])
    clear HBP
    have hz0 : (0 : Int) <= s := by omega
    have hz1 : (s : Int) < L.sw.length := by omega
    have hbc : b = true \/ b = false := by cases b <;> simp
    rcases hbc with rfl | rfl
    ·have hz := zh (show L.badFlank r k = false by rw [uh hBP]; rfl)
     go_wp2_with fail
     refine (z12 _ _ _ _ (uh HIF)).mono ?_
     rw [uh HT]
     rintro e w' ⟨rfl, rfl⟩
     go_wp2_with fail
     refine (z12 _ _ _ _ (uh HIP)).mono ?_
     rw [uh HM]
     rintro e w' ⟨rfl, rfl⟩
     go_wp2_with fail
     refine (ends_any _ L s _ ((uh HR).below (z08 (uh HB))) (uh HPS)).mono ?_
     rw [uh HE]
     rintro e w1 ⟨rfl, hb1⟩
     have hb5 := (uh HB).trans (hb1.mono (B' := w.heap.size + 2) (by omega))
     clear q0 q1 q2 q3 q4 q5 y0 y1 y2 y3 y4 hc0
     obtain ⟨q0, q1, q2, q3, q4, q5⟩ := z2s hb5
     have hb6 := zh (z08 hb5)
     have HB5 := zh hb5
     clear hb1 hb5
     rw [<- (uh hb6).cell (p := ⟨gh, _, none⟩) hgh] at he0
     go_wp2
     exact ⟨⟨k + 1, by omega, by go_num, by rw [uh HAS, uh HQ, uh hz]; rfl, uh HB5⟩, by simp [intOf]; omega⟩
    ·have hz := zh (uh HTR (by rw [uh hBP]; rfl))
     go_wp2_with fail
     refine (z12 _ _ _ _ (uh HIF)).mono ?_
     rw [uh HT]
     rintro e w' ⟨rfl, rfl⟩
     go_wp2_with fail
     refine (z12 _ _ _ _ (uh HIP)).mono ?_
     rw [uh HM]
     rintro e w' ⟨rfl, rfl⟩
     go_wp2_with fail
     refine (ends_any _ L s _ ((uh HR).below (z08 (uh HB))) (uh HPS)).mono ?_
     rw [uh HE]
     rintro e w1 ⟨rfl, hb1⟩
     have hb5 := (uh HB).trans (hb1.mono (B' := w.heap.size + 2) (by omega))
     clear q0 q1 q2 q3 q4 q5 y0 y1 y2 y3 y4 hc0
     obtain ⟨q0, q1, q2, q3, q4, q5⟩ := z2s hb5
     have hb6 := zh (z08 hb5)
     have HB5 := zh hb5
     clear hb1 hb5
     rw [<- (uh hb6).cell (p := ⟨gh, _, none⟩) hgh] at he0
     go_wp2
     go_ret
     exact ⟨z04 (uh hz).symm, uh hb6⟩
   ·have hz := zh (show z = false by
     have hk' : k = r.flank.length := by have := uh HFL; omega
     rw [uh HZ3, <- hk', uh HQ])
    have hb3 := z08 (uh HB)
    clear hb
    go_wp2
    go_ret
    exact ⟨z04 (uh hz).symm, hb3⟩
def z0n (L : Lay) (vs vr vt : Value) : Obj := .cells #[.int .i64 L.T, .int .i64 L.D, .int .i64 L.Q, vs, vr, vt] 82
theorem z3x {w wr : World} {L : Lay} {vh vr vt : Value} (hb : Below (w.heap.size + 1) (w.alloc (z0n L vh vr vt)) wr) :
  wr.cell? ⟨w.heap.size, 0, none⟩ = some (.int .i64 L.T) /\ wr.cell? ⟨w.heap.size, 1, none⟩ = some (.int .i64 L.D) /\ wr.cell? ⟨w.heap.size, 2, none⟩ = some (.int .i64 L.Q) ∧
  wr.cell? ⟨w.heap.size, 3, none⟩ = some vh /\ wr.cell? ⟨w.heap.size, 4, none⟩ = some vr /\ wr.cell? ⟨w.heap.size, 5, none⟩ = some vt /\ w.heap.size < wr.heap.size :=
 ⟨z1g hb 0, z1g hb 1, z1g hb 2, z1g hb 3, z1g hb 4, z1g hb 5, box_size hb⟩
set_option maxHeartbeats 400000 in
theorem z2l (v : Value) (L : Lay) (x : Nat) (w : World) (h : CLay w v L) :
  Calls Tryz.prog 101 #[v, .int .i64 x] w fun e w' => e = .returned (.bool (decide (x < L.sw.length))) /\ Below w.heap.size w w' := by
 obtain ⟨vs, vr, vt, rfl, hS, -, -⟩ := h
 obtain ⟨a1, d1, rfl, -, hm, -⟩ := SlAt.open hS
 unfold maxLen at hm
 clear hS
 have d : decide ((0 : Int) <= (x : Int)) = true := by simp
 generalize hz : decide (x < L.sw.length) = z
 have HZ := zh (show decide ((x : Int) < L.sw.length) = z by rw [<- hz, decide_eq_decide]; omega)
 clear hz
 go_enter Tryz.func101, Tryz.ntmps101
 go_wp2
 all_goals
  go_ret
  exact ⟨z04 (by have := uh HZ; first | exact this | (simp_all; done) | (simp_all; omega)), z01 _ _⟩
set_option maxHeartbeats 400000 in
theorem HasRoute_any (v : Value) (L : Lay) (x : Nat) (w : World) (h : CLay w v L) :
  Calls Tryz.prog 145 #[v, .int .i64 x] w fun e w' => e = .returned (.bool (decide (x < L.rts.length))) /\ Below w.heap.size w w' := by
 obtain ⟨vs, vr, vt, rfl, -, hS, -⟩ := h
 obtain ⟨a1, d1, rfl, -, hm, -⟩ := SlAt.open hS
 unfold maxLen at hm
 clear hS
 have d : decide ((0 : Int) <= (x : Int)) = true := by simp
 generalize hz : decide (x < L.rts.length) = z
 have HZ := zh (show decide ((x : Int) < L.rts.length) = z by rw [<- hz, decide_eq_decide]; omega)
 clear hz
 go_enter Tryz.func145, Tryz.ntmps145
 go_wp2
 all_goals
  go_ret
  exact ⟨z04 (by have := uh HZ; first | exact this | (simp_all; done) | (simp_all; omega)), z01 _ _⟩
set_option maxHeartbeats 400000 in
theorem z22 (v : Value) (L : Lay) (x : Nat) (w : World) (h : CLay w v L) :
  Calls Tryz.prog 68 #[v, .int .i64 x] w fun e w' => e = .returned (.bool (L.sw.getD x false)) /\ Below w.heap.size w w' := by
 have HL := zh h
 obtain ⟨vs, vr, vt, rfl, hS, -, -⟩ := h
 obtain ⟨a1, d1, rfl, -, hm, h3⟩ := SlAt.open hS
 unfold maxLen at hm
 clear hS
 have H1 := zh (fun (wz : World) (hz : Below w.heap.size w wz) => z2l _ L x wz ((uh HL).below hz))
 by_cases hx : x < L.sw.length
 ·obtain ⟨g, off, rfl, hg, cs, -, hC, hc⟩ := h3 x hx
  unfold CBool at hC
  subst hC
  have hc0 := hc 0 (by omega)
  simp at hc0
  have HZ := zh (sw_at L.sw x hx)
  rw [show decide (x < L.sw.length) = true from decide_eq_true hx] at H1
  have l0 : (0 : Int) <= x := by omega
  have l1 : (x : Int) < L.sw.length := by omega
  rw [uh HZ]
  clear hc h3
  generalize L.sw[x] = z at *
  clear hx
  go_enter Tryz.func68, Tryz.ntmps68
  go_wp2_with fail
  refine (uh H1 _ (z01 w (z0n L _ _ _))).mono ?_
  rintro e w1 ⟨rfl, hb⟩
  have hbx : Below (w.heap.size + 1) (w.alloc (z0n L (.slice (some ⟨g, off, none⟩) L.sw.length d1) vr vt)) w1 := hb.mono (by simp)
  obtain ⟨q0, q1, q2, q3, q4, q5, qs⟩ := z3x hbx
  rw [<- (z09 hbx).cell (p := ⟨g, _, none⟩) hg] at hc0
  have HB := zh (z09 hbx)
  clear hb hbx
  go_wp2
  go_ret
  exact ⟨rfl, uh HB⟩
 ·have HZ := zh (show L.sw.getD x false = false by rw [List.getD_eq_getElem?_getD, List.getElem?_eq_none (by omega)]; rfl)
  rw [show decide (x < L.sw.length) = false from decide_eq_false hx] at H1
  rw [uh HZ]
  clear h3 hx
  go_enter Tryz.func68, Tryz.ntmps68
  go_wp2_with fail
  refine (uh H1 _ (z01 w (z0n L _ _ _))).mono ?_
  rintro e w1 ⟨rfl, hb⟩
  have HB := zh ((z01 w (z0n L (.slice a1 L.sw.length d1) vr vt)).trans (hb.mono (by simp)))
  clear hb
  go_wp2
  go_ret
  exact ⟨rfl, uh HB⟩
set_option maxHeartbeats 400000 in
theorem z4o (v : Value) (l : List (Nat × Nat)) (x : Nat) (w : World) (h : Items w v l) :
  Calls Tryz.prog 103 #[v, .int .i64 x] w fun e w' => e = .returned (.bool (has l x)) /\ Below w.heap.size w w' := by
 obtain ⟨ao, cap, rfl, h1, h2, h3⟩ := SlAt.open h
 clear h
 unfold maxLen at h2
 generalize hz : has l x = z
 have HZ := zh hz
 clear hz
 go_enter Tryz.func103, Tryz.ntmps103
 go_wp2
 go_loopw [9] (fun i wr => ∃ k : Nat, i = .int .i64 k /\ k <= l.length /\ (∀ j (hj : j < l.length), j < k -> l[j].1 ≠ x) /\ Below w.heap.size w wr) (fun i _ => l.length - (intOf i).toNat)
 case atStart => exact ⟨0, rfl, Nat.zero_le _, fun j _ h => by omega, Below.refl _ _⟩
 case round =>
  obtain ⟨k, rfl, hk, hno, hb⟩ := hrel
  have HNO := zh hno
  have HB := zh hb
  have hsz := hb.size
  clear hno
  by_cases hlt : k < l.length
  ·obtain ⟨g, off, hao, hg, cs, -, hC, hc⟩ := h3 k hlt
   subst hao
   unfold CItem itemV at hC
   subst hC
   have hc0 := hc 0 (by omega)
   have hc1 := hc 1 (by omega)
   rw [<- hb.cell (p := ⟨g, _, none⟩) hg] at hc0 hc1
   simp at hc0 hc1
   have hmem := zh (List.getElem_mem hlt)
   have HE := zh (show (secs l)[k]'(by simpa [secs] using hlt) = l[k].1 by simp [secs])
   have hgw : g < wr.heap.size := by omega
   clear hc h3 hb
   by_cases hx : l[k].1 = x
   ·have HZ2 := zh (show z = true by
     rw [<- uh HZ, has, List.contains_iff_mem, secs, List.mem_map]
     exact ⟨l[k], uh hmem, hx⟩)
    have d : ((l[k].1 : Int) == (x : Int)) = true := by simp; omega
    clear hx
    generalize l[k].1 = y at *
    generalize l[k].2 = u at *
    go_wp2
    go_ret
    exact ⟨z04 (uh HZ2).symm, (uh HB).alloc hsz _⟩
   ·have HNK := zh (show ∀ j (hj : j < l.length), j < k + 1 -> l[j].1 ≠ x by
     intro j hj hjk
     rcases Nat.lt_or_ge j k with h | h
     ·exact uh HNO j hj h
     ·obtain rfl : j = k := by omega
      exact hx)
    have d : ((l[k].1 : Int) == (x : Int)) = false := by simp; omega
    clear hx HE
    obtain ⟨y, hy⟩ : ∃ y, y = l[k].1 := ⟨_, rfl⟩
    obtain ⟨u, hu⟩ : ∃ u, u = l[k].2 := ⟨_, rfl⟩
    rw [<- hy] at d hc0
    rw [<- hu] at hc1
    clear hy hu
    go_wp2
    exact ⟨⟨k + 1, by go_num, by omega, uh HNK, (uh HB).alloc hsz _⟩, by simp [intOf]; omega⟩
  ·have HZ2 := zh (show z = false by
    rw [<- uh HZ, has]
    apply Bool.eq_false_iff.2
    intro hc
    rw [List.contains_iff_mem, secs, List.mem_map] at hc
    obtain ⟨y, hy, e⟩ := hc
    obtain ⟨j, hj, rfl⟩ := List.getElem_of_mem hy
    exact uh HNO j hj (by omega) e)
   clear h3
   go_wp2
   go_ret
   exact ⟨z04 (uh HZ2).symm, hb⟩
def FCur (w : World) (b : Nat) (s : ByteArray) (p : Nat) : Prop := w.heap[b]? = some (.cells #[.string s, .int .i64 p] 127 (0, 0))
theorem FCur.cells {w : World} {b : Nat} {s : ByteArray} {p : Nat} (h : FCur w b s p) : w.cell? ⟨b, 0, none⟩ = some (.string s) /\ w.cell? ⟨b, 1, none⟩ = some (.int .i64 p) /\ w.frozen? ⟨b, 0, none⟩ = false /\ w.frozen? ⟨b, 1, none⟩ = false /\ b < w.heap.size :=
 ⟨(duo0 h).1.1, (duo0 h).1.2, (duo0 h).2.1.1, (duo0 h).2.1.2, (duo0 h).2.2⟩
theorem FCur.set {w : World} {b : Nat} {s : ByteArray} {p : Nat} (h : FCur w b s p) (q : Nat) : FCur (w.setCell ⟨b, 1, none⟩ (.int .i64 q)) b s q := by
 unfold FCur at h ⊢
 rw [heap_setCell_same w b 1 _ _ _ h]; rfl
theorem FCur.typed {w : World} {b : Nat} {s : ByteArray} {p : Nat} (h : FCur w b s p) : Typed w b 127 := ⟨_, _, h⟩
theorem FCur.gr {w w' : World} {b : Nat} {s : ByteArray} {p : Nat} {r : Option Nat} (h : FCur w b s p) (hg : w.grownBy w' r) (hn : some b ≠ r) : FCur w' b s p := by
 have := h.cells.2.2.2.2
 unfold FCur at h ⊢
 rw [hg.block b this hn]; exact h
theorem FCur.setCell {w : World} {b : Nat} {s : ByteArray} {p : Nat} (h : FCur w b s p) (g j : Nat) (u : Value) (hg : b ≠ g) : FCur (w.setCell ⟨g, j, none⟩ u) b s p := by
 unfold FCur at h ⊢
 rw [Below.heap_setCell _ _ _ _ hg]; exact h
theorem FCur.own {b : Nat} {w1 w2 : World} {s : ByteArray} {p : Nat} {o : Obj} {v : Value} {e : TypeId} {size n : Nat} {xs : List Value} {B : Nat} (h : FCur w1 b s p)
  (hown : w1.ownsRow B e size v n xs) (hg : (w1.alloc o).grownBy w2 v.ownBlock) (hne : e ≠ 127) : FCur w2 b s p :=
 (z0f hown hg hne _ _ _ h).trans h
def nx (s : ByteArray) (p : Nat) : Nat := if p < s.size then p + 1 else p
set_option maxHeartbeats 1000000 in
theorem fnext_any (b : Nat) (s : ByteArray) (p : Nat) (w : World) (h : FCur w b s p) (hs : s.size <= 1000) :
  Calls Tryz.prog 99 #[.pointer (some ⟨b, 0, none⟩)] w fun e w' => e = .returned (.int .u8 (pk s p)) /\ FCur w' b s (nx s p) /\ w.grownBy w' (some b) := by
 have HC := zh h
 obtain ⟨h0, h1, f0, f1, hb⟩ := h.cells
 clear h
 by_cases hlt : p < s.size
 ·have HP := zh (pk_in s p hlt)
  have HN := zh (show nx s p = p + 1 by unfold nx; rw [if_pos hlt])
  have d : decide ((s.size : Int) <= (p : Int)) = false := by simp; omega
  have d0 : (0 : Int) <= p := by omega
  have d1 : (p : Int) < s.size := by omega
  go_enter Tryz.func99, Tryz.ntmps99
  go_wp2
  go_quiet (fail)
  go_wp2
  go_quiet (fail)
  go_wp2
  go_ret
  have hcast : (p : Int) + 1 = ((p + 1 : Nat) : Int) := by omega
  rw [hcast]
  refine ⟨z2i (by rw [uh HP]), ?_, z1e (z3l _ _ _) (gr_set _ _ _ _)⟩
  rw [uh HN]
  exact FCur.set ((uh HC).gr (z3l _ _ none) (by simp)) (p + 1)
 ·have HP := zh (pk_end s p hlt)
  have HN := zh (show nx s p = p by unfold nx; rw [if_neg hlt])
  have d : decide ((s.size : Int) <= (p : Int)) = true := by simp; omega
  go_enter Tryz.func99, Tryz.ntmps99
  go_wp2
  go_quiet (fail)
  go_wp2
  go_ret
  exact ⟨z2i (by rw [uh HP]; rfl), by rw [uh HN]; exact (uh HC).gr (z3l _ _ none) (by simp), z3l _ _ _⟩
set_option maxHeartbeats 400000 in
theorem HasTrain_any (v : Value) (L : Lay) (x : Nat) (w : World) (h : CLay w v L) :
  Calls Tryz.prog 144 #[v, .int .i64 x] w fun e w' => e = .returned (.bool (decide (x < L.tns.length))) /\ Below w.heap.size w w' := by
 obtain ⟨vs, vr, vt, rfl, -, -, hS⟩ := h
 obtain ⟨a1, d1, rfl, -, hm, -⟩ := SlAt.open hS
 unfold maxLen at hm
 clear hS
 have d : decide ((0 : Int) <= (x : Int)) = true := by simp
 generalize hz : decide (x < L.tns.length) = z
 have HZ := zh (show decide ((x : Int) < L.tns.length) = z by rw [<- hz, decide_eq_decide]; omega)
 clear hz
 go_enter Tryz.func144, Tryz.ntmps144
 go_wp2
 all_goals
  go_ret
  exact ⟨z04 (by have := uh HZ; first | exact this | (simp_all; done) | (simp_all; omega)), z01 _ _⟩
set_option maxHeartbeats 400000 in
theorem HasTrain_neg (v : Value) (L : Lay) (x : Int) (w : World) (h : CLay w v L) (hx : x < 0) :
  Calls Tryz.prog 144 #[v, .int .i64 x] w fun e w' => e = .returned (.bool false) /\ Below w.heap.size w w' := by
 obtain ⟨vs, vr, vt, rfl, -, -, hS⟩ := h
 obtain ⟨a1, d1, rfl, -, hm, -⟩ := SlAt.open hS
 clear hS
 have d : decide ((0 : Int) <= x) = false := by simp; omega
 clear hx
 go_enter Tryz.func144, Tryz.ntmps144
 go_wp2
 go_ret
 exact ⟨rfl, z01 _ _⟩
set_option maxHeartbeats 400000 in
theorem HasRoute_neg (v : Value) (L : Lay) (x : Int) (w : World) (h : CLay w v L) (hx : x < 0) :
  Calls Tryz.prog 145 #[v, .int .i64 x] w fun e w' => e = .returned (.bool false) /\ Below w.heap.size w w' := by
 obtain ⟨vs, vr, vt, rfl, -, hS, -⟩ := h
 obtain ⟨a1, d1, rfl, -, hm, -⟩ := SlAt.open hS
 clear hS
 have d : decide ((0 : Int) <= x) = false := by simp; omega
 clear hx
 go_enter Tryz.func145, Tryz.ntmps145
 go_wp2
 go_ret
 exact ⟨rfl, z01 _ _⟩
set_option maxHeartbeats 400000 in
theorem HasSection_neg (v : Value) (L : Lay) (x : Int) (w : World) (h : CLay w v L) (hx : x < 0) :
  Calls Tryz.prog 101 #[v, .int .i64 x] w fun e w' => e = .returned (.bool false) /\ Below w.heap.size w w' := by
 obtain ⟨vs, vr, vt, rfl, hS, -, -⟩ := h
 obtain ⟨a1, d1, rfl, -, hm, -⟩ := SlAt.open hS
 clear hS
 have d : decide ((0 : Int) <= x) = false := by simp; omega
 clear hx
 go_enter Tryz.func101, Tryz.ntmps101
 go_wp2
 go_ret
 exact ⟨rfl, z01 _ _⟩
set_option maxHeartbeats 400000 in
theorem HasSwitch_neg (v : Value) (L : Lay) (x : Int) (w : World) (h : CLay w v L) (hx : x < 0) :
  Calls Tryz.prog 68 #[v, .int .i64 x] w fun e w' => e = .returned (.bool false) /\ Below w.heap.size w w' := by
 have H1 := zh (fun (wz : World) (hz : Below w.heap.size w wz) => HasSection_neg _ L x wz (h.below hz) hx)
 obtain ⟨vs, vr, vt, rfl, hS, -, -⟩ := h
 obtain ⟨a1, d1, rfl, -, hm, h3⟩ := SlAt.open hS
 clear hS h3 hx
 go_enter Tryz.func68, Tryz.ntmps68
 go_wp2_with fail
 refine (uh H1 _ (z01 w (z0n L _ _ _))).mono ?_
 rintro e w1 ⟨rfl, hb⟩
 have HB := zh ((z01 w (z0n L (.slice a1 L.sw.length d1) vr vt)).trans (hb.mono (by simp)))
 clear hb
 go_wp2
 go_ret
 exact ⟨rfl, uh HB⟩
def cbase (c : Nat) : Nat := if c = 114 then 49 else if c = 99 then 65 else 97
theorem num_in {x b n : Nat} (h : b <= x) : (numF x b n).isSome = decide (x - b < n) := by
 unfold numF
 by_cases h1 : x < b + n
 ·rw [if_pos ⟨h, h1⟩, decide_eq_true (by omega)]; rfl
 ·rw [if_neg (by omega), decide_eq_false (by omega)]; rfl
theorem num_out {x b n : Nat} (h : ¬ b <= x) : numF x b n = none := by
 unfold numF; rw [if_neg (by omega)]
set_option maxHeartbeats 1000000 in
theorem named_any (v : Value) (L : Lay) (c x : Nat) (w : World) (h : CLay w v L) (_hc : c < 256) (_hx : x < 256) :
  Calls Tryz.prog 100 #[v, .int .u8 c, .int .u8 x] w fun e w' => ∃ n : Int, e = .returned (.tuple #[.int .i64 n, .bool (L.cmdB c x)]) /\ (L.cmdB c x = true -> n = ((x - cbase c : Nat) : Int)) /\ Below w.heap.size w w' := by
 obtain ⟨Z, hZ⟩ : ∃ Z, Z = L.cmdB c x := ⟨_, rfl⟩
 rw [<- hZ]
 unfold Lay.cmdB at hZ
 obtain ⟨vs, vr, vt, hv, -⟩ := id h
 have HL := zh h
 have HA := zh (fun (wz : World) => z01 wz (z0n L vs vr vt))
 clear h
 subst hv
 have hcb : cbase c = if c = 114 then 49 else if c = 99 then 65 else 97 := rfl
 by_cases h1 : c = 114
 ·rw [if_pos h1] at hZ hcb
  have b1 : ((c : Int) == 114) = true := by simp [h1]
  by_cases hlo : 49 <= x
  ·obtain ⟨m, rfl⟩ : ∃ m, x = m + 49 := ⟨x - 49, by omega⟩
   rw [num_in hlo, Nat.add_sub_cancel] at hZ
   have HM := zh (Nat.add_sub_cancel m 49)
   have H1 := zh (fun (wz : World) (hz : Below w.heap.size w wz) => HasTrain_any _ L m wz ((uh HL).below hz))
   rw [<- hZ] at H1
   have HCB := zh hcb
   clear hZ h1 hlo hcb
   go_enter Tryz.func100, Tryz.ntmps100
   go_wp2_with fail
   refine (uh H1 _ (uh HA w)).mono ?_
   rintro e w1 ⟨rfl, hb1⟩
   have HB := zh ((uh HA w).trans (hb1.mono (by simp)))
   clear hb1
   go_wp2
   go_ret2
   exact ⟨(m : Int), by first | rfl | (simp <;> rfl), fun _ => by rw [uh HCB, uh HM], uh HB⟩
  ·rw [num_out hlo] at hZ
   have H1 := zh (fun (wz : World) (hz : Below w.heap.size w wz) => HasTrain_neg _ L ((x : Int) - 49) wz ((uh HL).below hz) (by omega))
   have HZ := zh (show Z = false from hZ)
   clear hZ h1 hlo hcb
   go_enter Tryz.func100, Tryz.ntmps100
   go_wp2_with fail
   refine (uh H1 _ (uh HA w)).mono ?_
   rintro e w1 ⟨rfl, hb1⟩
   have HB := zh ((uh HA w).trans (hb1.mono (by simp)))
   clear hb1
   go_wp2
   go_ret2
   exact ⟨_, by rw [uh HZ] <;> rfl, fun h => absurd h (by rw [uh HZ]; simp), uh HB⟩
 ·rw [if_neg h1] at hZ hcb
  have b1 : ((c : Int) == 114) = false := by simp; omega
  by_cases h2 : c = 99
  ·rw [if_pos h2] at hZ hcb
   have b2 : ((c : Int) == 99) = true := by simp [h2]
   by_cases hlo : 65 <= x
   ·obtain ⟨m, rfl⟩ : ∃ m, x = m + 65 := ⟨x - 65, by omega⟩
    rw [num_in hlo, Nat.add_sub_cancel] at hZ
    have HM := zh (Nat.add_sub_cancel m 65)
    have H1 := zh (fun (wz : World) (hz : Below w.heap.size w wz) => HasRoute_any _ L m wz ((uh HL).below hz))
    rw [<- hZ] at H1
    have HCB := zh hcb
    clear hZ h1 h2 hlo hcb
    go_enter Tryz.func100, Tryz.ntmps100
    go_wp2_with fail
    refine (uh H1 _ (uh HA w)).mono ?_
    rintro e w1 ⟨rfl, hb1⟩
    have HB := zh ((uh HA w).trans (hb1.mono (by simp)))
    clear hb1
    go_wp2
    go_ret2
    exact ⟨(m : Int), by first | rfl | (simp <;> rfl), fun _ => by rw [uh HCB, uh HM], uh HB⟩
   ·rw [num_out hlo] at hZ
    have H1 := zh (fun (wz : World) (hz : Below w.heap.size w wz) => HasRoute_neg _ L ((x : Int) - 65) wz ((uh HL).below hz) (by omega))
    have HZ := zh (show Z = false from hZ)
    clear hZ h1 h2 hlo hcb
    go_enter Tryz.func100, Tryz.ntmps100
    go_wp2_with fail
    refine (uh H1 _ (uh HA w)).mono ?_
    rintro e w1 ⟨rfl, hb1⟩
    have HB := zh ((uh HA w).trans (hb1.mono (by simp)))
    clear hb1
    go_wp2
    go_ret2
    exact ⟨_, by rw [uh HZ] <;> rfl, fun h => absurd h (by rw [uh HZ]; simp), uh HB⟩
  ·rw [if_neg h2] at hZ hcb
   have b2 : ((c : Int) == 99) = false := by simp; omega
   by_cases h4 : c = 109
   ·rw [if_pos h4] at hZ
    have b3 : ((c : Int) == 109) = true := by simp [h4]
    by_cases hlo : 97 <= x
    ·obtain ⟨m, rfl⟩ : ∃ m, x = m + 97 := ⟨x - 97, by omega⟩
     have HM := zh (Nat.add_sub_cancel m 97)
     have hz2 : Z = L.sw.getD m false := by
      rw [hZ]
      unfold numF
      by_cases hb : m + 97 < 97 + L.sw.length
      ·rw [if_pos ⟨hlo, hb⟩]
       simp
      ·rw [if_neg (by omega)]
       rw [List.getD_eq_getElem?_getD, List.getElem?_eq_none (by omega)]; rfl
     have H1 := zh (fun (wz : World) (hz : Below w.heap.size w wz) => z22 _ L m wz ((uh HL).below hz))
     rw [<- hz2] at H1
     have HCB := zh hcb
     clear hZ hz2 h1 h2 h4 hlo hcb
     go_enter Tryz.func100, Tryz.ntmps100
     go_wp2_with fail
     refine (uh H1 _ (uh HA w)).mono ?_
     rintro e w1 ⟨rfl, hb1⟩
     have HB := zh ((uh HA w).trans (hb1.mono (by simp)))
     clear hb1
     go_wp2
     go_ret2
     exact ⟨(m : Int), by first | rfl | (simp <;> rfl), fun _ => by rw [uh HCB, uh HM], uh HB⟩
    ·rw [num_out hlo] at hZ
     have H1 := zh (fun (wz : World) (hz : Below w.heap.size w wz) => HasSwitch_neg _ L ((x : Int) - 97) wz ((uh HL).below hz) (by omega))
     have HZ := zh (show Z = false from hZ)
     clear hZ h1 h2 h4 hlo hcb
     go_enter Tryz.func100, Tryz.ntmps100
     go_wp2_with fail
     refine (uh H1 _ (uh HA w)).mono ?_
     rintro e w1 ⟨rfl, hb1⟩
     have HB := zh ((uh HA w).trans (hb1.mono (by simp)))
     clear hb1
     go_wp2
     go_ret2
     exact ⟨_, by rw [uh HZ] <;> rfl, fun h => absurd h (by rw [uh HZ]; simp), uh HB⟩
   ·rw [if_neg h4] at hZ
    have HZ := zh hZ
    have b3 : ((c : Int) == 109) = false := by simp; omega
    clear hZ h1 h2 h4 hcb
    go_enter Tryz.func100, Tryz.ntmps100
    go_wp2
    go_ret2
    exact ⟨_, by rw [uh HZ] <;> rfl, fun h => absurd h (by rw [uh HZ]; simp), uh HA w⟩
def FBox (w : World) (l : Nat) (vc vo vp : Value) : Prop := w.heap[l]? = some (.cells #[vc, vo, vp] 76 (0, 0))
def Lay.occL (_L : Lay) (s : ByteArray) (k : Nat) : List Bool := (List.range k).map (fun i => pk s i == 49)
def Lay.repL (L : Lay) (s : ByteArray) (k : Nat) : List Nat := (List.range k).map (L.repF s)
theorem okO_pos {s : ByteArray} {k : Nat} (h : okO s k = true) : k < s.size := by
 apply pk_pos
 unfold okO at h
 simp at h
 omega
set_option maxRecDepth 100000 in
set_option maxHeartbeats 2000000 in
theorem fsections_any (b l : Nat) (v : Value) (L : Lay) (s : ByteArray) (w : World) (hC : FCur w b s 0) (hF : FBox w l (.slice none 0 0) (.slice none 0 0) (.slice none 0 0)) (hL : CLay w v L) (hs : s.size <= 64) (hbl : b ≠ l) :
  Calls Tryz.prog 65 #[.pointer (some ⟨b, 0, none⟩), v, .pointer (some ⟨l, 0, none⟩)] w fun e w' => e = .returned (.bool ((List.range L.sw.length).all (okO s))) /\ G2 w w' b l ∧
   ((List.range L.sw.length).all (okO s) = true -> ∃ vo, FBox w' l (.slice none 0 0) vo (.slice none 0 0) /\ w'.ownsRow w.heap.size 4 1 vo L.sw.length (z17 (L.occL s L.sw.length)) /\ FCur w' b s L.sw.length /\ L.sw.length <= s.size) := by
 obtain ⟨vs, vr, vt, rfl, hS, -, -⟩ := hL
 obtain ⟨a1, d1, rfl, -, hm, -⟩ := SlAt.open hS
 unfold maxLen at hm
 obtain ⟨Z, hZ⟩ : ∃ Z, Z = (List.range L.sw.length).all (okO s) := ⟨_, rfl⟩
 rw [<- hZ]
 have HZ := zh hZ
 have hbw := hC.cells.2.2.2.2
 have hlw := z0g hF
 obtain ⟨i0, hi0⟩ := info_parts Tryz.infoBool
 have HI := zh hi0
 have A := zh (And.intro (hC.gr (z51 (gr_refl w none) (z0n L (.slice a1 L.sw.length d1) vr vt)) (by simp)) (And.intro (show FBox (w.alloc (z0n L (.slice a1 L.sw.length d1) vr vt)) l _ _ _ from (Below.heap_alloc _ _ _ hlw).trans hF) ((G2.refl w b l).alloc (z0n L (.slice a1 L.sw.length d1) vr vt))))
 clear hi0 hS hZ hC hF
 go_enter Tryz.func65, Tryz.ntmps65
 go_wp2
 go_loopw [11] (fun i wr => ∃ k : Nat, ∃ vo, i = .int .i64 k /\ k <= L.sw.length /\ k <= s.size /\ (∀ j, j < k -> okO s j = true) /\ FBox wr l (.slice none 0 0) vo (.slice none 0 0) /\ wr.ownsRow w.heap.size 4 1 vo k (z17 (L.occL s k)) /\ FCur wr b s k /\ G2 w wr b l) (fun i _ => L.sw.length - (intOf i).toNat)
 case atStart => exact ⟨0, _, rfl, Nat.zero_le _, Nat.zero_le _, fun j h => by omega, (uh A).2.1, World.ownsRow_nil _ _ _ _, (uh A).1, (uh A).2.2⟩
 case round =>
  clear A
  obtain ⟨k, vo, rfl, hk, hks, hno, hF, hown, hC, hG⟩ := hrel
  have hsz := hG.2.2.2.1
  by_cases hlt : k < L.sw.length
  ·have l1 : (k : Int) < L.sw.length := by omega
   have H1 := zh (fnext_any b s k wr hC (by omega))
   have HNO := zh hno
   have F := zh (And.intro hF (And.intro hG hC.typed))
   clear hno hF hG hC
   go_wp2_with fail
   refine (uh H1).mono ?_
   rintro e w1 ⟨rfl, hC1, hg1⟩
   have hF1 := z1t (uh F).1 hg1 (Ne.symm hbl)
   have hG1 := (uh F).2.1.gr hg1
   have hown1 := z06 hown (z3o (uh F).2.2 hg1 (by decide))
   have hsz1 := hG1.2.2.2.1
   obtain ⟨⟨y0, y1, y2⟩, ⟨f0, f1, f2⟩, ql⟩ := tri0 hF1
   have HP := zh (show okO s k = (pk s k == 48 || pk s k == 49) from rfl)
   have HOC := zh (show z17 (L.occL s (k + 1)) = z17 (L.occL s k) ++ [.bool (pk s k == 49)] by
    unfold Lay.occL
    rw [List.range_succ, List.map_append]; exact z3c _ _)
   have HNN := zh (show okO s k = true -> ∀ j, j < k + 1 -> okO s j = true by
    intro h j hj
    by_cases hj' : j < k
    ·exact uh HNO j hj'
    ·obtain rfl : j = k := by omega
     exact h)
   have HFL := zh (show okO s k = false -> Z = false by
    intro h; rw [uh HZ]; exact ar_false hlt h)
   have HPS := zh (@okO_pos s k)
   have HC1 := zh hC1
   have F1 := zh (And.intro hF1 hG1)
   obtain ⟨av, cv, hvs⟩ := z02 hown1
   subst hvs
   clear hF1 hG1 hg1 hC1 hown H1 F
   obtain ⟨c, hc⟩ : ∃ c, pk s k = c := ⟨_, rfl⟩
   rw [hc] at HP HOC ⊢
   clear hc
   by_cases c48 : c = 48
   ·have hok : okO s k = true := by rw [uh HP, c48]; rfl
    have b1 : ((c : Int) != 48) = false := by simp [c48]
    have b2 : ((c : Int) == 49) = false := by simp [c48]
    have b3 : (c == 49) = false := by simp [c48]
    rw [b3] at HOC
    have hkz := uh HPS hok
    have HN2 := zh (uh HNN hok)
    have HNX := zh (show nx s k = k + 1 by unfold nx; rw [if_pos hkz])
    clear c48 hok b3
    go_wp2_with (at_builtin; refine wpList_append_own _ rfl _ _ 48 rfl w.heap.size 4 i0 (.bool false) 1 1 Tryz.underlying48 (uh HI).1 (uh HI).2.1 (uh HI).2.2.1 (uh HI).2.2.2 rfl (by decide) _ _ _ rfl (hown1.alloc _) ⟨w1.heap.size, 0, none⟩ 1 1 [.bool false] rfl rfl (z0q _ _ _) (z0a rfl) (by unfold maxLen; omega) (by omega) (by simp; omega) ?_; intro v3 w3 hown3 hgrow3 _; have hF3 : FBox w3 l _ _ _ := (z0f hown1 hgrow3 (by decide) _ _ _ (uh F1).1).trans (uh F1).1; have HC3 := zh ((uh HC1).own hown1 hgrow3 (by decide)); have HG3 := zh ((uh F1).2.own (Nat.le_refl _) hown1 hgrow3); obtain ⟨av', cv', hv'⟩ := z02 hown3; subst hv'; clear y0 y1 y2 f0 f1 f2 ql; obtain ⟨⟨y0, y1, y2⟩, ⟨f0, f1, f2⟩, ql⟩ := tri0 hF3; have HF3 := zh hF3; clear hF3)
    refine ⟨⟨k + 1, _, by go_num, by omega, hkz, uh HN2, z0b _ (uh HF3), ?_, ?_, (uh HG3).set _ _⟩, by simp [intOf]; omega⟩
    ·rw [uh HOC]
     exact z3e hown3 l 1 _ ⟨_, _, uh HF3⟩ (by decide)
    ·rw [<- uh HNX]
     exact (uh HC3).setCell l 1 _ hbl
   ·have b1 : ((c : Int) != 48) = true := by simp; omega
    by_cases c49 : c = 49
    ·have hok : okO s k = true := by rw [uh HP, c49]; rfl
     have b2 : ((c : Int) == 49) = true := by simp [c49]
     have b4 : ((c : Int) != 49) = false := by simp [c49]
     have b3 : (c == 49) = true := by simp [c49]
     rw [b3] at HOC
     have hkz := uh HPS hok
     have HN2 := zh (uh HNN hok)
     have HNX := zh (show nx s k = k + 1 by unfold nx; rw [if_pos hkz])
     clear c48 hok b3 c49
     go_wp2_with (at_builtin; refine wpList_append_own _ rfl _ _ 48 rfl w.heap.size 4 i0 (.bool false) 1 1 Tryz.underlying48 (uh HI).1 (uh HI).2.1 (uh HI).2.2.1 (uh HI).2.2.2 rfl (by decide) _ _ _ rfl (hown1.alloc _) ⟨w1.heap.size, 0, none⟩ 1 1 [.bool true] rfl rfl (z0q _ _ _) (z0a rfl) (by unfold maxLen; omega) (by omega) (by simp; omega) ?_; intro v3 w3 hown3 hgrow3 _; have hF3 : FBox w3 l _ _ _ := (z0f hown1 hgrow3 (by decide) _ _ _ (uh F1).1).trans (uh F1).1; have HC3 := zh ((uh HC1).own hown1 hgrow3 (by decide)); have HG3 := zh ((uh F1).2.own (Nat.le_refl _) hown1 hgrow3); obtain ⟨av', cv', hv'⟩ := z02 hown3; subst hv'; clear y0 y1 y2 f0 f1 f2 ql; obtain ⟨⟨y0, y1, y2⟩, ⟨f0, f1, f2⟩, ql⟩ := tri0 hF3; have HF3 := zh hF3; clear hF3)
     refine ⟨⟨k + 1, _, by go_num, by omega, hkz, uh HN2, z0b _ (uh HF3), ?_, ?_, (uh HG3).set _ _⟩, by simp [intOf]; omega⟩
     ·rw [uh HOC]
      exact z3e hown3 l 1 _ ⟨_, _, uh HF3⟩ (by decide)
     ·rw [<- uh HNX]
      exact (uh HC3).setCell l 1 _ hbl
    ·have hok : okO s k = false := by rw [uh HP]; simp [c48, c49]
     have b4 : ((c : Int) != 49) = true := by simp; omega
     have HZ2 := zh (uh HFL hok)
     clear c48 hok c49
     go_wp2
     go_ret
     exact ⟨z04 (uh HZ2).symm, (uh F1).2, fun h => absurd h (by rw [uh HZ2]; simp)⟩
  ·obtain rfl : k = L.sw.length := by omega
   have HZ2 := zh (show Z = true by rw [uh HZ]; exact ar_true hno)
   have F := zh (And.intro hF (And.intro hown (And.intro hC (And.intro hks hG))))
   clear hno hF hown hC hG
   go_wp2
   go_ret
   exact ⟨z04 (uh HZ2).symm, (uh F).2.2.2.2, fun _ => ⟨_, (uh F).1, (uh F).2.1, (uh F).2.2.1, (uh F).2.2.2.1⟩⟩
theorem posR_succ (L : Lay) (k : Nat) (h : k < L.sw.length) : L.posR (k + 1) = L.posR k + if L.sw[k] then 1 else 0 := by
 unfold Lay.posR
 rw [cntT_succ _ _ h]; omega
theorem isRep_pos {s : ByteArray} {p : Nat} (h : isRep (pk s p) = true) : p < s.size := by
 apply pk_pos
 unfold isRep at h
 simp at h
 omega
set_option maxRecDepth 100000 in
set_option maxHeartbeats 2000000 in
theorem fswitches_any (b l : Nat) (v : Value) (L : Lay) (s : ByteArray) (vo : Value) (w : World) (hC : FCur w b s L.sw.length) (hF : FBox w l (.slice none 0 0) vo (.slice none 0 0)) (hL : CLay w v L) (hs : s.size <= 64) (hps : L.sw.length <= s.size) (hbl : b ≠ l) :
  Calls Tryz.prog 66 #[.pointer (some ⟨b, 0, none⟩), v, .pointer (some ⟨l, 0, none⟩)] w fun e w' => e = .returned (.bool ((List.range L.sw.length).all (L.okR s))) /\ G2 w w' b l ∧
   ((List.range L.sw.length).all (L.okR s) = true -> ∃ vp, FBox w' l (.slice none 0 0) vo vp /\ w'.ownsRow w.heap.size 5 1 vp L.sw.length (bytsV (L.repL s L.sw.length)) /\ FCur w' b s L.bgn /\ L.bgn <= s.size) := by
 obtain ⟨vs, vr, vt, rfl, hS, -, -⟩ := hL
 have HS := zh hS
 obtain ⟨a1, d1, rfl, -, hm, -⟩ := SlAt.open hS
 unfold maxLen at hm
 obtain ⟨Z, hZ⟩ : ∃ Z, Z = (List.range L.sw.length).all (L.okR s) := ⟨_, rfl⟩
 rw [<- hZ]
 have HZ := zh hZ
 have hbw := hC.cells.2.2.2.2
 have hlw := z0g hF
 obtain ⟨i0, hi0⟩ := info_parts Tryz.infoByte
 have HI := zh hi0
 have HT := zh (And.intro hC.typed (show Typed w l 76 from ⟨_, _, hF⟩))
 have hp0 : L.posR 0 = L.sw.length := by simp [Lay.posR, cntT]
 have A := zh (And.intro (hC.gr (z51 (gr_refl w none) (z0n L (.slice a1 L.sw.length d1) vr vt)) (by simp)) (And.intro (show FBox (w.alloc (z0n L (.slice a1 L.sw.length d1) vr vt)) l _ _ _ from (Below.heap_alloc _ _ _ hlw).trans hF) (And.intro ((G2.refl w b l).alloc (z0n L (.slice a1 L.sw.length d1) vr vt)) hp0)))
 clear hi0 hS hZ hC hF hp0
 go_enter Tryz.func66, Tryz.ntmps66
 go_wp2
 go_loopw [13] (fun i wr => ∃ k : Nat, ∃ vp, i = .int .i64 k /\ k <= L.sw.length /\ L.posR k <= s.size /\ (∀ j, j < k -> L.okR s j = true) /\ FBox wr l (.slice none 0 0) vo vp /\ wr.ownsRow w.heap.size 5 1 vp k (bytsV (L.repL s k)) /\ FCur wr b s (L.posR k) /\ G2 w wr b l) (fun i _ => L.sw.length - (intOf i).toNat)
 case atStart => exact ⟨0, _, rfl, Nat.zero_le _, by rw [(uh A).2.2.2]; exact hps, fun j h => by omega, (uh A).2.1, World.ownsRow_nil _ _ _ _, by rw [(uh A).2.2.2]; exact (uh A).1, (uh A).2.2.1⟩
 case round =>
  clear A
  obtain ⟨k, vp, rfl, hk, hks, hno, hF, hown, hC, hG⟩ := hrel
  have hsz := hG.2.2.2.1
  by_cases hlt : k < L.sw.length
  ·have l1 : (k : Int) < L.sw.length := by omega
   have l0 : (0 : Int) <= k := by omega
   have H1 := zh (fnext_any b s (L.posR k) wr hC (by omega))
   have HNO := zh hno
   have F := zh (And.intro hF (And.intro hG (And.intro hC.typed hC)))
   obtain ⟨ao', c', he, -, -, s3⟩ := SlAt.open ((uh HS).keep (z3p (uh HT).1 (uh HT).2 hG (by decide) (by decide)))
   obtain ⟨gs, os, hao, hgs, cs, -, hCs, hcs⟩ := s3 k hlt
   simp only [Value.slice.injEq, true_and] at he
   obtain ⟨rfl, rfl⟩ := he
   subst hao
   unfold CBool at hCs
   subst hCs
   have x0 := hcs 0 (by omega)
   simp at x0
   have HOK := zh (show L.okR s k = (!L.sw[k] || isRep (pk s (L.posR k))) by
    unfold Lay.okR; rw [z1f _ _ _ hlt])
   have HRP := zh (show L.repF s k = if L.sw[k] then pk s (L.posR k) else 0 by unfold Lay.repF; rw [z1f _ _ _ hlt])
   have HPR := zh (posR_succ L k hlt)
   have HOC := zh (show bytsV (L.repL s (k + 1)) = bytsV (L.repL s k) ++ [.int .u8 (L.repF s k : Nat)] by
    unfold Lay.repL
    rw [List.range_succ, List.map_append]; exact z2g _ _)
   have HNN := zh (show L.okR s k = true -> ∀ j, j < k + 1 -> L.okR s j = true by
    intro h j hj
    by_cases hj' : j < k
    ·exact uh HNO j hj'
    ·obtain rfl : j = k := by omega
     exact h)
   have HFL := zh (show L.okR s k = false -> Z = false by
    intro h; rw [uh HZ]; exact ar_false hlt h)
   clear hno hF hG hC hcs s3
   obtain ⟨av, cv, hvs⟩ := z02 hown
   obtain ⟨hb, hhb⟩ : ∃ hb, L.sw[k] = hb := ⟨_, rfl⟩
   rw [hhb] at x0 HOK HRP HPR
   clear hhb
   cases hb with
   | false =>
    have hok : L.okR s k = true := by rw [uh HOK]; rfl
    have HN2 := zh (uh HNN hok)
    have HR0 := zh (show L.repF s k = 0 by rw [uh HRP]; rfl)
    have HPP := zh (show L.posR (k + 1) = L.posR k by rw [uh HPR]; rfl)
    subst hvs
    obtain ⟨⟨y0, y1, y2⟩, ⟨f0, f1, f2⟩, ql⟩ := tri0 (uh F).1
    clear hok
    go_wp2_with (at_builtin; refine wpList_append_own _ rfl _ _ 74 rfl w.heap.size 5 i0 (.int .u8 0) 1 1 Tryz.underlying74 (uh HI).1 (uh HI).2.1 (uh HI).2.2.1 (uh HI).2.2.2 rfl (by decide) _ _ _ rfl (hown.alloc _) ⟨wr.heap.size, 0, none⟩ 1 1 [.int .u8 0] rfl rfl (z0q _ _ _) (z0a rfl) (by unfold maxLen; omega) (by omega) (by simp; omega) ?_; intro v3 w3 hown3 hgrow3 _; have hF3 : FBox w3 l _ _ _ := (z0f hown hgrow3 (by decide) _ _ _ (uh F).1).trans (uh F).1; have HC3 := zh ((uh F).2.2.2.own hown hgrow3 (by decide)); have HG3 := zh ((uh F).2.1.own (Nat.le_refl _) hown hgrow3); obtain ⟨av', cv', hv'⟩ := z02 hown3; subst hv'; clear y0 y1 y2 f0 f1 f2 ql; obtain ⟨⟨y0, y1, y2⟩, ⟨f0, f1, f2⟩, ql⟩ := tri0 hF3; have HF3 := zh hF3; clear hF3)
    refine ⟨⟨k + 1, _, by go_num, by omega, by rw [uh HPP]; exact hks, uh HN2, z0b _ (uh HF3), ?_, ?_, (uh HG3).set _ _⟩, by simp [intOf]; omega⟩
    ·rw [uh HOC, uh HR0]
     exact z3e hown3 l 2 _ ⟨_, _, uh HF3⟩ (by decide)
    ·rw [uh HPP]
     exact (uh HC3).setCell l 2 _ hbl
   | true =>
    have HR0 := zh (show L.repF s k = pk s (L.posR k) by rw [uh HRP]; rfl)
    have HPP := zh (show L.posR (k + 1) = L.posR k + 1 by rw [uh HPR]; rfl)
    have HO1 := zh (show L.okR s k = isRep (pk s (L.posR k)) by rw [uh HOK]; rfl)
    have HPS := zh (@isRep_pos s (L.posR k))
    go_wp2_with fail
    refine (uh H1).mono ?_
    rintro e w1 ⟨rfl, hC1, hg1⟩
    have hF1 := z1t (uh F).1 hg1 (Ne.symm hbl)
    have hG1 := (uh F).2.1.gr hg1
    have hown1 := z06 hown (z3o (uh F).2.2.1 hg1 (by decide))
    have hsz1 := hG1.2.2.2.1
    obtain ⟨⟨y0, y1, y2⟩, ⟨f0, f1, f2⟩, ql⟩ := tri0 hF1
    have HC1 := zh hC1
    have F1 := zh (And.intro hF1 hG1)
    subst hvs
    clear hF1 hG1 hg1 hC1 hown H1 F x0
    obtain ⟨c, hc⟩ : ∃ c, pk s (L.posR k) = c := ⟨_, rfl⟩
    rw [hc] at HR0 HO1 HPS ⊢
    have hc256 : c < 256 := by rw [<- hc]; exact pk_lt _ _
    clear hc HRP HOK
    have hcase : (c = 43 \/ c = 45 \/ c = 63) \/ (c ≠ 43 /\ c ≠ 45 /\ c ≠ 63) := by omega
    rcases hcase with hcase | ⟨n1, n2, n3⟩
    ·have hir : isRep c = true := by unfold isRep; rcases hcase with rfl | rfl | rfl <;> rfl
     have hok : L.okR s k = true := by rw [uh HO1]; exact hir
     have hkz := uh HPS hir
     have HN2 := zh (uh HNN hok)
     have HNX := zh (show nx s (L.posR k) = L.posR k + 1 by unfold nx; rw [if_pos hkz])
     clear hok hir
     have bcase : (((c : Int) != 43) = false) \/ (((c : Int) != 43) = true /\ ((c : Int) != 45) = false) \/ (((c : Int) != 43) = true /\ ((c : Int) != 45) = true /\ ((c : Int) != 63) = false) := by
      rcases hcase with rfl | rfl | rfl
      ·left; rfl
      ·right; left; exact ⟨rfl, rfl⟩
      ·right; right; exact ⟨rfl, rfl, rfl⟩
     clear hcase
     rcases bcase with b1 | ⟨b1, b2⟩ | ⟨b1, b2, b3⟩
     all_goals
      go_wp2_with (at_builtin; refine wpList_append_own _ rfl _ _ 74 rfl w.heap.size 5 i0 (.int .u8 0) 1 1 Tryz.underlying74 (uh HI).1 (uh HI).2.1 (uh HI).2.2.1 (uh HI).2.2.2 rfl (by decide) _ _ _ rfl (hown1.alloc _) ⟨w1.heap.size, 0, none⟩ 1 1 [.int .u8 (c : Nat)] rfl rfl (z0q _ _ _) (z0a rfl) (by unfold maxLen; omega) (by omega) (by simp; omega) ?_; intro v3 w3 hown3 hgrow3 _; have hF3 : FBox w3 l _ _ _ := (z0f hown1 hgrow3 (by decide) _ _ _ (uh F1).1).trans (uh F1).1; have HC3 := zh ((uh HC1).own hown1 hgrow3 (by decide)); have HG3 := zh ((uh F1).2.own (Nat.le_refl _) hown1 hgrow3); obtain ⟨av', cv', hv'⟩ := z02 hown3; subst hv'; clear y0 y1 y2 f0 f1 f2 ql; obtain ⟨⟨y0, y1, y2⟩, ⟨f0, f1, f2⟩, ql⟩ := tri0 hF3; have HF3 := zh hF3; clear hF3)
      refine ⟨⟨k + 1, _, by go_num, by omega, by rw [uh HPP]; exact hkz, uh HN2, z0b _ (uh HF3), ?_, ?_, (uh HG3).set _ _⟩, by simp [intOf]; omega⟩
      ·rw [uh HOC, uh HR0]
       exact z3e hown3 l 2 _ ⟨_, _, uh HF3⟩ (by decide)
      ·rw [uh HPP, <- uh HNX]
       exact (uh HC3).setCell l 2 _ hbl
    ·have hok : L.okR s k = false := by rw [uh HO1]; unfold isRep; simp [n1, n2, n3]
     have b1 : ((c : Int) != 43) = true := by simp; omega
     have b2 : ((c : Int) != 45) = true := by simp; omega
     have b3 : ((c : Int) != 63) = true := by simp; omega
     have HZ2 := zh (uh HFL hok)
     clear n1 n2 n3 hok
     go_wp2
     go_ret
     exact ⟨z04 (uh HZ2).symm, (uh F1).2, fun h => absurd h (by rw [uh HZ2]; simp)⟩
  ·obtain rfl : k = L.sw.length := by omega
   have HZ2 := zh (show Z = true by rw [uh HZ]; exact ar_true hno)
   have HBG := zh (show L.posR L.sw.length = L.bgn by unfold Lay.posR Lay.bgn; rw [List.take_length])
   have F := zh (And.intro hF (And.intro hown (And.intro hC (And.intro hks hG))))
   clear hno hF hown hC hG
   go_wp2
   go_ret
   exact ⟨z04 (uh HZ2).symm, (uh F).2.2.2.2, fun _ => ⟨_, (uh F).1, (uh F).2.1, by rw [<- uh HBG]; exact (uh F).2.2.1, by rw [<- uh HBG]; exact (uh F).2.2.2.1⟩⟩
end Go.Proofs.YtkbpocecbcaiiabGreatDoor
