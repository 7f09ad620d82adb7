import Derived.Test.YtkbpocecbcaiiaaGreatDoorJ8
import Derived.Deep.DeepCutAuto
import Derived.Test.YtkbpocecbcaiiaaGreatDoorJ5
namespace Go.Proofs.YtkbpocecbcaiiaaGreatDoor
open Go.RowKit
theorem timesZ_nat (l : List Nat) (s : Nat) : z1b l s = ((l.filter (· == s)).length : Int) := by
 unfold z1b
 have : (fun y : Nat => ((y : Int) == (s : Int))) = (· == s) := by
  funext y; rw [Bool.eq_iff_iff]; simp; omega
 rw [this]
theorem secs_at (p : List (Nat × Nat)) (k : Nat) (h : k < p.length) (h' : k < (secs p).length) : (secs p)[k] = (p.getD k (0, 0)).1 := by
 simp [secs, List.getD_eq_getElem?_getD, List.getElem?_eq_getElem h]
theorem signs_at (p : List (Nat × Nat)) (k : Nat) (h : k < p.length) (h' : k < (signs p).length) : (signs p)[k] = (p.getD k (0, 0)).2 := by
 simp [signs, List.getD_eq_getElem?_getD, List.getElem?_eq_getElem h]
theorem z2s (p : Nat -> Bool) (n : Nat) : (List.range (n + 1)).any p = ((List.range n).any p || p n) := by
 rw [List.range_succ, List.any_append]; simp
theorem z2t (p : Nat -> Bool) (n k : Nat) (h : k < n) (hp : p k = true) : (List.range n).any p = true :=
 List.any_eq_true.2 ⟨k, List.mem_range.2 h, hp⟩
theorem sw_at (l : List Bool) (s : Nat) (h : s < l.length) : l.getD s false = l[s] := by
 simp [List.getD_eq_getElem?_getD, List.getElem?_eq_getElem h]
set_option maxHeartbeats 4000000 in
theorem crooked_any (v : Value) (L : Lay) (r : Rt) (vp vs vf vl : Value) (w : World) (h : RPlan w v L) (hr : CRRt w r [.int .i64 r.foot, vp, vs, vf, vl]) (hp : L.Paths) :
  Calls Tryz.prog 116 #[v, .agg #[.int .i64 r.foot, vp, vs, vf, vl]] w fun e w' => e = .returned (.bool (L.crooked r)) /\ Below w.heap.size w w' := by
 have HR := zh h
 obtain ⟨vh, vr, vt, rfl, hH, -, -⟩ := h
 obtain ⟨aoh, caph, rfl, h1, h2, h3⟩ := SlAt.open hH
 obtain ⟨_, _, _, _, he, hP, hS, hF, hL⟩ := hr
 simp only [List.cons.injEq, and_true, true_and] at he
 obtain ⟨rfl, rfl, rfl, rfl⟩ := he
 have HP := zh hP
 have HF := zh hF
 obtain ⟨aop, capp, rfl, p1, p2, p3⟩ := SlAt.open hP
 obtain ⟨aos, caps, rfl, s1, s2, s3⟩ := SlAt.open hS
 obtain ⟨aof, capf, rfl, f1, f2, f3⟩ := SlAt.open hF
 have HPS := zh hp
 clear hH hP hS hF hL hp
 unfold maxLen at h2 p2 s2 f2
 generalize hzz : L.crooked r = z
 have HZ := zh hzz
 clear hzz
 by_cases c0 : L.sw.length <= r.foot
 ·have hz := zh (show z = true by rw [<- uh HZ]; simp [Lay.crooked, c0])
  clear h3 p3 s3 f3
  go_enter Tryz.func116, Tryz.ntmps116
  go_wp2
  go_ret
  exact ⟨z04 (uh hz).symm, z06 (Below.refl _ _)⟩
 have HZ2 := zh (show z = ((List.range r.path.length).any (L.badPath r) || (List.range r.flank.length).any (L.badFlank r)) by rw [<- uh HZ]; simp [Lay.crooked, c0])
 clear HZ
 have hpl : (secs r.path).length = r.path.length := by simp [secs]
 have hsl : (signs r.path).length = r.path.length := by simp [signs]
 have hfl : (secs r.flank).length = r.flank.length := by simp [secs]
 have HPL := zh hpl
 have HSL := zh hsl
 have HFL := zh hfl
 clear hpl hsl hfl
 go_enter Tryz.func116, Tryz.ntmps116
 go_wp2
 go_loopw [5] (fun i wr => ∃ k : Nat, k <= (secs r.path).length /\ i = .int .i64 k /\ (List.range k).any (L.badPath r) = false ∧
   Below (w.heap.size + 2) ((w.alloc (z0v L (.slice aoh L.sw.length caph) vr vt)).alloc (rrtBox r (.slice aop (secs r.path).length capp) (.slice aos (signs r.path).length caps) (.slice aof (secs r.flank).length capf) vl)) wr) (fun i _ => (secs r.path).length - (intOf i).toNat)
 case atStart => exact ⟨0, Nat.zero_le _, rfl, rfl, Below.refl _ _⟩
 case round =>
  obtain ⟨k, hk, rfl, hz, hb⟩ := hrel
  have HQ := zh hz
  have HB := zh hb
  obtain ⟨q0, q1, q2, q3, q4, q5⟩ := z21 hb
  obtain ⟨y0, y1, y2, y3, y4⟩ := two_rrt hb
  have qs := z17 hb
  clear hz
  by_cases hlt : k < (secs r.path).length
  ·have hlt' : k < r.path.length := by have := uh HPL; omega
   have hlts : k < (signs r.path).length := by have := uh HSL; omega
   obtain ⟨gp, offp, hao, hgp, cs, -, hC, hc⟩ := p3 k hlt
   subst hao
   unfold CInt at hC
   subst hC
   have hc0 := hc 0 (by omega)
   rw [<- (z06 hb).cell (p := ⟨gp, _, none⟩) hgp] at hc0
   obtain ⟨gs, offs, hao, hgs, cs2, -, hC2, hd⟩ := s3 k hlts
   subst hao
   unfold CByte at hC2
   subst hC2
   have hd0 := hd 0 (by omega)
   rw [<- (z06 hb).cell (p := ⟨gs, _, none⟩) hgs] at hd0
   have HBP := zh (show L.badPath r k = (decide (L.sw.length <= (secs r.path)[k]) || decide ((1 : Int) < z1b (secs r.path) (secs r.path)[k]) || (secs r.path)[k] == r.foot || (L.sw.getD (secs r.path)[k] false != ((signs r.path)[k] != 0))) by
    rw [timesZ_nat, secs_at _ _ hlt' hlt, signs_at _ _ hlt' hlts, Lay.badPath]
    congr 3
    rw [decide_eq_decide]; omega)
   have HIP := zh ((uh HP).below (z06 hb))
   simp at hc0 hd0
   clear hc hd p3 s3 f3 hb
   generalize (secs r.path)[k] = s at *
   generalize (signs r.path)[k] = sg at *
   generalize htz : z1b (secs r.path) s = n at *
   have HT := zh htz
   clear htz
   have hb3 := zh (z06 (uh HB))
   have HTR := zh (fun (h : L.badPath r k = true) => show z = true by rw [uh HZ2, z2t _ _ k hlt' h, Bool.true_or])
   by_cases c1 : L.sw.length <= s
   ·have hz := zh (uh HTR (by rw [uh HBP]; simp [c1]))
    have d1 : decide ((L.sw.length : Int) <= (s : Int)) = true := by simp; omega
    go_wp2_with (go_at_call 155; refine (z0m _ _ _ _ (uh HIP)).mono ?_; rw [uh HT]; rintro e w' ⟨rfl, rfl⟩)
    go_quiet (fail)
    go_wp2
    go_ret
    exact ⟨z04 (uh hz).symm, below_drewN (uh hb3) _⟩
   have d1 : decide ((L.sw.length : Int) <= (s : Int)) = false := by simp; omega
   by_cases c2 : 1 < n
   ·have hz := zh (uh HTR (by rw [uh HBP]; simp [c2]))
    have d2 : decide ((1 : Int) < n) = true := by simp; omega
    go_wp2_with (go_at_call 155; refine (z0m _ _ _ _ (uh HIP)).mono ?_; rw [uh HT]; rintro e w' ⟨rfl, rfl⟩)
    go_quiet (fail)
    go_wp2
    go_ret
    exact ⟨z04 (uh hz).symm, below_drewN (uh hb3) _⟩
   have d2 : decide ((1 : Int) < n) = false := by simp; omega
   by_cases c3 : s = r.foot
   ·have hz := zh (uh HTR (by rw [uh HBP]; simp [c3]))
    have d3 : ((s : Int) == (r.foot : Int)) = true := by simp; omega
    clear c3
    go_wp2_with (go_at_call 155; refine (z0m _ _ _ _ (uh HIP)).mono ?_; rw [uh HT]; rintro e w' ⟨rfl, rfl⟩)
    go_quiet (fail)
    go_wp2
    go_ret
    exact ⟨z04 (uh hz).symm, below_drewN (uh hb3) _⟩
   have d3 : ((s : Int) == (r.foot : Int)) = false := by simp; omega
   have hss : s < L.sw.length := by omega
   obtain ⟨gh, offh, hao, hgh, cs3, -, hC3, he⟩ := h3 s hss
   subst hao
   unfold CBool at hC3
   subst hC3
   have he0 := he 0 (by omega)
   rw [<- (z06 (uh HB)).cell (p := ⟨gh, _, none⟩) hgh] at he0
   rw [sw_at _ _ hss] at HBP
   simp at he0
   clear he h3
   generalize L.sw[s] = b at *
   have hBP := zh (show L.badPath r k = (b != (sg != 0)) by rw [uh HBP]; simp [c1, c2, c3])
   clear HBP
   have hz0 : (0 : Int) <= s := by omega
   have hz1 : (s : Int) < L.sw.length := by omega
   have HAS := zh (z2s (L.badPath r) k)
   have hbc : b = true \/ b = false := by cases b <;> simp
   rcases hbc with rfl | rfl <;> by_cases hs0 : sg = 0
   ·have hz := zh (uh HTR (by rw [uh hBP]; simp [hs0]))
    have d4 : ((sg : Int) != 0) = false := by simp; omega
    clear hs0
    go_wp2_with (go_at_call 155; refine (z0m _ _ _ _ (uh HIP)).mono ?_; rw [uh HT]; rintro e w' ⟨rfl, rfl⟩)
    go_quiet (fail)
    go_wp2
    go_ret
    exact ⟨z04 (uh hz).symm, below_drewN (uh hb3) _⟩
   ·have hz := zh (show L.badPath r k = false by rw [uh hBP]; simp [hs0])
    have d4 : ((sg : Int) != 0) = true := by simp; omega
    clear hs0
    go_wp2_with (go_at_call 155; refine (z0m _ _ _ _ (uh HIP)).mono ?_; rw [uh HT]; rintro e w' ⟨rfl, rfl⟩)
    go_quiet (fail)
    go_wp2
    exact ⟨⟨k + 1, by omega, by go_num, by rw [uh HAS, uh HQ, uh hz]; rfl, below_drewN (uh HB) _⟩, by simp [intOf]; omega⟩
   ·have hz := zh (show L.badPath r k = false by rw [uh hBP]; simp [hs0])
    have d4 : ((sg : Int) != 0) = false := by simp; omega
    clear hs0
    go_wp2_with (go_at_call 155; refine (z0m _ _ _ _ (uh HIP)).mono ?_; rw [uh HT]; rintro e w' ⟨rfl, rfl⟩)
    go_quiet (fail)
    go_wp2
    exact ⟨⟨k + 1, by omega, by go_num, by rw [uh HAS, uh HQ, uh hz]; rfl, below_drewN (uh HB) _⟩, by simp [intOf]; omega⟩
   ·have hz := zh (uh HTR (by rw [uh hBP]; simp [hs0]))
    have d4 : ((sg : Int) != 0) = true := by simp; omega
    clear hs0
    go_wp2_with (go_at_call 155; refine (z0m _ _ _ _ (uh HIP)).mono ?_; rw [uh HT]; rintro e w' ⟨rfl, rfl⟩)
    go_quiet (fail)
    go_wp2
    go_ret
    exact ⟨z04 (uh hz).symm, below_drewN (uh hb3) _⟩
  ·have HZ3 := zh (show z = (List.range r.flank.length).any (L.badFlank r) by
    have hk' : k = r.path.length := by have := uh HPL; omega
    rw [uh HZ2, <- hk', uh HQ, Bool.false_or])
   clear HZ2 hb
   go_wp2
   go_loopw [8] (fun i wr => ∃ k : Nat, k <= (secs r.flank).length /\ i = .int .i64 k /\ (List.range k).any (L.badFlank r) = false ∧
     Below (w.heap.size + 2) ((w.alloc (z0v L (.slice aoh L.sw.length caph) vr vt)).alloc (rrtBox r (.slice aop (secs r.path).length capp) (.slice aos (signs r.path).length caps) (.slice aof (secs r.flank).length capf) vl)) wr) (fun i _ => (secs r.flank).length - (intOf i).toNat)
   case atStart => exact ⟨0, Nat.zero_le _, rfl, rfl, uh HB⟩
   case round =>
   clear HQ HB q0 q1 q2 q3 q4 q5 y0 y1 y2 y3 y4 qs hk hlt
   obtain ⟨k, hk, rfl, hz, hb⟩ := hrel
   have HQ := zh hz
   have HB := zh hb
   obtain ⟨q0, q1, q2, q3, q4, q5⟩ := z21 hb
   obtain ⟨y0, y1, y2, y3, y4⟩ := two_rrt hb
   have qs := z17 hb
   clear hz
   by_cases hlt : k < (secs r.flank).length
   ·have hlt' : k < r.flank.length := by have := uh HFL; omega
    obtain ⟨gf, offf, hao, hgf, cs, -, hC, hc⟩ := f3 k hlt
    subst hao
    unfold CInt at hC
    subst hC
    have hc0 := hc 0 (by omega)
    rw [<- (z06 hb).cell (p := ⟨gf, _, none⟩) hgf] at hc0
    have HBP := zh (show L.badFlank r k = (decide (L.sw.length <= (secs r.flank)[k]) || decide ((1 : Int) < z1b (secs r.flank) (secs r.flank)[k]) || decide ((0 : Int) < z1b (secs r.path) (secs r.flank)[k]) || L.endsB (secs r.flank)[k] || !L.sw.getD (secs r.flank)[k] false) by
     rw [z3o, timesZ_nat, secs_at _ _ hlt' hlt, Lay.badFlank]
     congr 4
     rw [decide_eq_decide]; omega)
    have HIP := zh ((uh HP).below (z06 hb))
    have HIF := zh ((uh HF).below (z06 hb))
    simp at hc0
    clear hc p3 s3 f3 hb
    generalize (secs r.flank)[k] = s at *
    generalize htz : z1b (secs r.flank) s = n at *
    have HT := zh htz
    clear htz
    generalize htz : z1b (secs r.path) s = m at *
    have HM := zh htz
    clear htz
    generalize htz : L.endsB s = eb at *
    have HE := zh htz
    clear htz
    have HTR := zh (fun (h : L.badFlank r k = true) => show z = true by rw [uh HZ3]; exact z2t _ _ k hlt' h)
    have HAS := zh (z2s (L.badFlank r) k)
    by_cases c1 : L.sw.length <= s
    ·have hz := zh (uh HTR (by rw [uh HBP]; simp [c1]))
     have d1 : decide ((L.sw.length : Int) <= (s : Int)) = true := by simp; omega
     go_wp2_with fail
     refine (z0m _ _ _ _ (uh HIF)).mono ?_
     rw [uh HT]
     rintro e w' ⟨rfl, rfl⟩
     go_wp2_with fail
     refine (z0m _ _ _ _ (uh HIP)).mono ?_
     rw [uh HM]
     rintro e w' ⟨rfl, rfl⟩
     go_wp2_with fail
     refine (ends_any _ L s _ ((uh HR).below (z06 (uh HB))) (uh HPS)).mono ?_
     rw [uh HE]
     rintro e w1 ⟨rfl, hb1⟩
     have hb5 := (uh HB).trans (hb1.mono (B' := w.heap.size + 2) (by omega))
     clear q0 q1 q2 q3 q4 q5 y0 y1 y2 y3 y4 hc0
     obtain ⟨q0, q1, q2, q3, q4, q5⟩ := z21 hb5
     have hb6 := zh (z06 hb5)
     have HB5 := zh hb5
     clear hb1 hb5
     go_wp2
     go_ret
     exact ⟨z04 (uh hz).symm, uh hb6⟩
    have d1 : decide ((L.sw.length : Int) <= (s : Int)) = false := by simp; omega
    by_cases c2 : 1 < n
    ·have hz := zh (uh HTR (by rw [uh HBP]; simp [c2]))
     have d2 : decide ((1 : Int) < n) = true := by simp; omega
     go_wp2_with fail
     refine (z0m _ _ _ _ (uh HIF)).mono ?_
     rw [uh HT]
     rintro e w' ⟨rfl, rfl⟩
     go_wp2_with fail
     refine (z0m _ _ _ _ (uh HIP)).mono ?_
     rw [uh HM]
     rintro e w' ⟨rfl, rfl⟩
     go_wp2_with fail
     refine (ends_any _ L s _ ((uh HR).below (z06 (uh HB))) (uh HPS)).mono ?_
     rw [uh HE]
     rintro e w1 ⟨rfl, hb1⟩
     have hb5 := (uh HB).trans (hb1.mono (B' := w.heap.size + 2) (by omega))
     clear q0 q1 q2 q3 q4 q5 y0 y1 y2 y3 y4 hc0
     obtain ⟨q0, q1, q2, q3, q4, q5⟩ := z21 hb5
     have hb6 := zh (z06 hb5)
     have HB5 := zh hb5
     clear hb1 hb5
     go_wp2
     go_ret
     exact ⟨z04 (uh hz).symm, uh hb6⟩
    have d2 : decide ((1 : Int) < n) = false := by simp; omega
    by_cases c3 : 0 < m
    ·have hz := zh (uh HTR (by rw [uh HBP]; simp [c3]))
     have d3 : decide ((0 : Int) < m) = true := by simp; omega
     go_wp2_with fail
     refine (z0m _ _ _ _ (uh HIF)).mono ?_
     rw [uh HT]
     rintro e w' ⟨rfl, rfl⟩
     go_wp2_with fail
     refine (z0m _ _ _ _ (uh HIP)).mono ?_
     rw [uh HM]
     rintro e w' ⟨rfl, rfl⟩
     go_wp2_with fail
     refine (ends_any _ L s _ ((uh HR).below (z06 (uh HB))) (uh HPS)).mono ?_
     rw [uh HE]
     rintro e w1 ⟨rfl, hb1⟩
     have hb5 := (uh HB).trans (hb1.mono (B' := w.heap.size + 2) (by omega))
     clear q0 q1 q2 q3 q4 q5 y0 y1 y2 y3 y4 hc0
     obtain ⟨q0, q1, q2, q3, q4, q5⟩ := z21 hb5
     have hb6 := zh (z06 hb5)
     have HB5 := zh hb5
     clear hb1 hb5
     go_wp2
     go_ret
     exact ⟨z04 (uh hz).symm, uh hb6⟩
    have d3 : decide ((0 : Int) < m) = false := by simp; omega
    have hec : eb = true \/ eb = false := by cases eb <;> simp
    rcases hec with rfl | rfl
    ·have hz := zh (uh HTR (by rw [uh HBP]; simp))
     go_wp2_with fail
     refine (z0m _ _ _ _ (uh HIF)).mono ?_
     rw [uh HT]
     rintro e w' ⟨rfl, rfl⟩
     go_wp2_with fail
     refine (z0m _ _ _ _ (uh HIP)).mono ?_
     rw [uh HM]
     rintro e w' ⟨rfl, rfl⟩
     go_wp2_with fail
     refine (ends_any _ L s _ ((uh HR).below (z06 (uh HB))) (uh HPS)).mono ?_
     rw [uh HE]
     rintro e w1 ⟨rfl, hb1⟩
     have hb5 := (uh HB).trans (hb1.mono (B' := w.heap.size + 2) (by omega))
     clear q0 q1 q2 q3 q4 q5 y0 y1 y2 y3 y4 hc0
     obtain ⟨q0, q1, q2, q3, q4, q5⟩ := z21 hb5
     have hb6 := zh (z06 hb5)
     have HB5 := zh hb5
     clear hb1 hb5
     go_wp2
     go_ret
     exact ⟨z04 (uh hz).symm, uh hb6⟩
    have hss : s < L.sw.length := by omega
    obtain ⟨gh, offh, hao, hgh, cs3, -, hC3, he⟩ := h3 s hss
    subst hao
    unfold CBool at hC3
    subst hC3
    have he0 := he 0 (by omega)
    rw [sw_at _ _ hss] at HBP
    simp at he0
    clear he h3
    generalize L.sw[s] = b at *
    have hBP := zh (show L.badFlank r k = !b by rw [uh HBP]; simp [c1, c2, c3])
    clear HBP
    have hz0 : (0 : Int) <= s := by omega
    have hz1 : (s : Int) < L.sw.length := by omega
    have hbc : b = true \/ b = false := by cases b <;> simp
    rcases hbc with rfl | rfl
    ·have hz := zh (show L.badFlank r k = false by rw [uh hBP]; rfl)
     go_wp2_with fail
     refine (z0m _ _ _ _ (uh HIF)).mono ?_
     rw [uh HT]
     rintro e w' ⟨rfl, rfl⟩
     go_wp2_with fail
     refine (z0m _ _ _ _ (uh HIP)).mono ?_
     rw [uh HM]
     rintro e w' ⟨rfl, rfl⟩
     go_wp2_with fail
     refine (ends_any _ L s _ ((uh HR).below (z06 (uh HB))) (uh HPS)).mono ?_
     rw [uh HE]
     rintro e w1 ⟨rfl, hb1⟩
     have hb5 := (uh HB).trans (hb1.mono (B' := w.heap.size + 2) (by omega))
     clear q0 q1 q2 q3 q4 q5 y0 y1 y2 y3 y4 hc0
     obtain ⟨q0, q1, q2, q3, q4, q5⟩ := z21 hb5
     have hb6 := zh (z06 hb5)
     have HB5 := zh hb5
     clear hb1 hb5
     rw [<- (uh hb6).cell (p := ⟨gh, _, none⟩) hgh] at he0
     go_wp2
     exact ⟨⟨k + 1, by omega, by go_num, by rw [uh HAS, uh HQ, uh hz]; rfl, uh HB5⟩, by simp [intOf]; omega⟩
    ·have hz := zh (uh HTR (by rw [uh hBP]; rfl))
     go_wp2_with fail
     refine (z0m _ _ _ _ (uh HIF)).mono ?_
     rw [uh HT]
     rintro e w' ⟨rfl, rfl⟩
     go_wp2_with fail
     refine (z0m _ _ _ _ (uh HIP)).mono ?_
     rw [uh HM]
     rintro e w' ⟨rfl, rfl⟩
     go_wp2_with fail
     refine (ends_any _ L s _ ((uh HR).below (z06 (uh HB))) (uh HPS)).mono ?_
     rw [uh HE]
     rintro e w1 ⟨rfl, hb1⟩
     have hb5 := (uh HB).trans (hb1.mono (B' := w.heap.size + 2) (by omega))
     clear q0 q1 q2 q3 q4 q5 y0 y1 y2 y3 y4 hc0
     obtain ⟨q0, q1, q2, q3, q4, q5⟩ := z21 hb5
     have hb6 := zh (z06 hb5)
     have HB5 := zh hb5
     clear hb1 hb5
     rw [<- (uh hb6).cell (p := ⟨gh, _, none⟩) hgh] at he0
     go_wp2
     go_ret
     exact ⟨z04 (uh hz).symm, uh hb6⟩
   ·have hz := zh (show z = false by
     have hk' : k = r.flank.length := by have := uh HFL; omega
     rw [uh HZ3, <- hk', uh HQ])
    have hb3 := z06 (uh HB)
    clear hb
    go_wp2
    go_ret
    exact ⟨z04 (uh hz).symm, hb3⟩
def z0i (L : Lay) (vs vr vt : Value) : Obj := .cells #[.int .i64 L.T, .int .i64 L.D, .int .i64 L.Q, vs, vr, vt] 83
theorem z2u {w wr : World} {L : Lay} {vh vr vt : Value} (hb : Below (w.heap.size + 1) (w.alloc (z0i L vh vr vt)) wr) :
  wr.cell? ⟨w.heap.size, 0, none⟩ = some (.int .i64 L.T) /\ wr.cell? ⟨w.heap.size, 1, none⟩ = some (.int .i64 L.D) /\ wr.cell? ⟨w.heap.size, 2, none⟩ = some (.int .i64 L.Q) ∧
  wr.cell? ⟨w.heap.size, 3, none⟩ = some vh /\ wr.cell? ⟨w.heap.size, 4, none⟩ = some vr /\ wr.cell? ⟨w.heap.size, 5, none⟩ = some vt /\ w.heap.size < wr.heap.size :=
 ⟨z0j hb 0, z0j hb 1, z0j hb 2, z0j hb 3, z0j hb 4, z0j hb 5, z33 hb⟩
set_option maxHeartbeats 400000 in
theorem z1v (v : Value) (L : Lay) (x : Nat) (w : World) (h : CLay w v L) :
  Calls Tryz.prog 120 #[v, .int .i64 x] w fun e w' => e = .returned (.bool (decide (x < L.sw.length))) /\ Below w.heap.size w w' := by
 obtain ⟨vs, vr, vt, rfl, hS, -, -⟩ := h
 obtain ⟨a1, d1, rfl, -, hm, -⟩ := SlAt.open hS
 unfold maxLen at hm
 clear hS
 have d : decide ((0 : Int) <= (x : Int)) = true := by simp
 generalize hz : decide (x < L.sw.length) = z
 have HZ := zh (show decide ((x : Int) < L.sw.length) = z by rw [<- hz, decide_eq_decide]; omega)
 clear hz
 go_enter Tryz.func120, Tryz.ntmps120
 go_wp2
 all_goals
  go_ret
  exact ⟨z04 (by have := uh HZ; first | exact this | (simp_all; done) | (simp_all; omega)), z02 _ _⟩
set_option maxHeartbeats 400000 in
theorem HasRoute_any (v : Value) (L : Lay) (x : Nat) (w : World) (h : CLay w v L) :
  Calls Tryz.prog 172 #[v, .int .i64 x] w fun e w' => e = .returned (.bool (decide (x < L.rts.length))) /\ Below w.heap.size w w' := by
 obtain ⟨vs, vr, vt, rfl, -, hS, -⟩ := h
 obtain ⟨a1, d1, rfl, -, hm, -⟩ := SlAt.open hS
 unfold maxLen at hm
 clear hS
 have d : decide ((0 : Int) <= (x : Int)) = true := by simp
 generalize hz : decide (x < L.rts.length) = z
 have HZ := zh (show decide ((x : Int) < L.rts.length) = z by rw [<- hz, decide_eq_decide]; omega)
 clear hz
 go_enter Tryz.func172, Tryz.ntmps172
 go_wp2
 all_goals
  go_ret
  exact ⟨z04 (by have := uh HZ; first | exact this | (simp_all; done) | (simp_all; omega)), z02 _ _⟩
set_option maxHeartbeats 400000 in
theorem z1l (v : Value) (L : Lay) (x : Nat) (w : World) (h : CLay w v L) :
  Calls Tryz.prog 80 #[v, .int .i64 x] w fun e w' => e = .returned (.bool (L.sw.getD x false)) /\ Below w.heap.size w w' := by
 have HL := zh h
 obtain ⟨vs, vr, vt, rfl, hS, -, -⟩ := h
 obtain ⟨a1, d1, rfl, -, hm, h3⟩ := SlAt.open hS
 unfold maxLen at hm
 clear hS
 have H1 := zh (fun (wz : World) (hz : Below w.heap.size w wz) => z1v _ L x wz ((uh HL).below hz))
 by_cases hx : x < L.sw.length
 ·obtain ⟨g, off, rfl, hg, cs, -, hC, hc⟩ := h3 x hx
  unfold CBool at hC
  subst hC
  have hc0 := hc 0 (by omega)
  simp at hc0
  have HZ := zh (sw_at L.sw x hx)
  rw [show decide (x < L.sw.length) = true from decide_eq_true hx] at H1
  have l0 : (0 : Int) <= x := by omega
  have l1 : (x : Int) < L.sw.length := by omega
  rw [uh HZ]
  clear hc h3
  generalize L.sw[x] = z at *
  clear hx
  go_enter Tryz.func80, Tryz.ntmps80
  go_wp2_with fail
  refine (uh H1 _ (z02 w (z0i L _ _ _))).mono ?_
  rintro e w1 ⟨rfl, hb⟩
  have hbx : Below (w.heap.size + 1) (w.alloc (z0i L (.slice (some ⟨g, off, none⟩) L.sw.length d1) vr vt)) w1 := hb.mono (by simp)
  obtain ⟨q0, q1, q2, q3, q4, q5, qs⟩ := z2u hbx
  rw [<- (z05 hbx).cell (p := ⟨g, _, none⟩) hg] at hc0
  have HB := zh (z05 hbx)
  clear hb hbx
  go_wp2
  go_ret
  exact ⟨rfl, uh HB⟩
 ·have HZ := zh (show L.sw.getD x false = false by rw [List.getD_eq_getElem?_getD, List.getElem?_eq_none (by omega)]; rfl)
  rw [show decide (x < L.sw.length) = false from decide_eq_false hx] at H1
  rw [uh HZ]
  clear h3 hx
  go_enter Tryz.func80, Tryz.ntmps80
  go_wp2_with fail
  refine (uh H1 _ (z02 w (z0i L _ _ _))).mono ?_
  rintro e w1 ⟨rfl, hb⟩
  have HB := zh ((z02 w (z0i L (.slice a1 L.sw.length d1) vr vt)).trans (hb.mono (by simp)))
  clear hb
  go_wp2
  go_ret
  exact ⟨rfl, uh HB⟩
set_option maxHeartbeats 400000 in
theorem z3c (v : Value) (l : List (Nat × Nat)) (x : Nat) (w : World) (h : Items w v l) :
  Calls Tryz.prog 122 #[v, .int .i64 x] w fun e w' => e = .returned (.bool (has l x)) /\ Below w.heap.size w w' := by
 obtain ⟨ao, cap, rfl, h1, h2, h3⟩ := SlAt.open h
 clear h
 unfold maxLen at h2
 generalize hz : has l x = z
 have HZ := zh hz
 clear hz
 go_enter Tryz.func122, Tryz.ntmps122
 go_wp2
 go_loopw [9] (fun i wr => ∃ k : Nat, i = .int .i64 k /\ k <= l.length /\ (∀ j (hj : j < l.length), j < k -> l[j].1 ≠ x) /\ Below w.heap.size w wr) (fun i _ => l.length - (intOf i).toNat)
 case atStart => exact ⟨0, rfl, Nat.zero_le _, fun j _ h => by omega, Below.refl _ _⟩
 case round =>
  obtain ⟨k, rfl, hk, hno, hb⟩ := hrel
  have HNO := zh hno
  have HB := zh hb
  have hsz := hb.size
  clear hno
  by_cases hlt : k < l.length
  ·obtain ⟨g, off, hao, hg, cs, -, hC, hc⟩ := h3 k hlt
   subst hao
   unfold CItem itemV at hC
   subst hC
   have hc0 := hc 0 (by omega)
   have hc1 := hc 1 (by omega)
   rw [<- hb.cell (p := ⟨g, _, none⟩) hg] at hc0 hc1
   simp at hc0 hc1
   have hmem := zh (List.getElem_mem hlt)
   have HE := zh (show (secs l)[k]'(by simpa [secs] using hlt) = l[k].1 by simp [secs])
   have hgw : g < wr.heap.size := by omega
   clear hc h3 hb
   by_cases hx : l[k].1 = x
   ·have HZ2 := zh (show z = true by
     rw [<- uh HZ, has, List.contains_iff_mem, secs, List.mem_map]
     exact ⟨l[k], uh hmem, hx⟩)
    have d : ((l[k].1 : Int) == (x : Int)) = true := by simp; omega
    clear hx
    generalize l[k].1 = y at *
    generalize l[k].2 = u at *
    go_wp2
    go_ret
    exact ⟨z04 (uh HZ2).symm, (uh HB).alloc hsz _⟩
   ·have HNK := zh (show ∀ j (hj : j < l.length), j < k + 1 -> l[j].1 ≠ x by
     intro j hj hjk
     rcases Nat.lt_or_ge j k with h | h
     ·exact uh HNO j hj h
     ·obtain rfl : j = k := by omega
      exact hx)
    have d : ((l[k].1 : Int) == (x : Int)) = false := by simp; omega
    clear hx HE
    obtain ⟨y, hy⟩ : ∃ y, y = l[k].1 := ⟨_, rfl⟩
    obtain ⟨u, hu⟩ : ∃ u, u = l[k].2 := ⟨_, rfl⟩
    rw [<- hy] at d hc0
    rw [<- hu] at hc1
    clear hy hu
    go_wp2
    exact ⟨⟨k + 1, by go_num, by omega, uh HNK, (uh HB).alloc hsz _⟩, by simp [intOf]; omega⟩
  ·have HZ2 := zh (show z = false by
    rw [<- uh HZ, has]
    apply Bool.eq_false_iff.2
    intro hc
    rw [List.contains_iff_mem, secs, List.mem_map] at hc
    obtain ⟨y, hy, e⟩ := hc
    obtain ⟨j, hj, rfl⟩ := List.getElem_of_mem hy
    exact uh HNO j hj (by omega) e)
   clear h3
   go_wp2
   go_ret
   exact ⟨z04 (uh HZ2).symm, hb⟩
def FCur (w : World) (b : Nat) (s : ByteArray) (p : Nat) : Prop := w.heap[b]? = some (.cells #[.string s, .int .i64 p] 137 (0, 0))
theorem FCur.cells {w : World} {b : Nat} {s : ByteArray} {p : Nat} (h : FCur w b s p) : w.cell? ⟨b, 0, none⟩ = some (.string s) /\ w.cell? ⟨b, 1, none⟩ = some (.int .i64 p) /\ w.frozen? ⟨b, 0, none⟩ = false /\ w.frozen? ⟨b, 1, none⟩ = false /\ b < w.heap.size :=
 ⟨(duo0 h).1.1, (duo0 h).1.2, (duo0 h).2.1.1, (duo0 h).2.1.2, (duo0 h).2.2⟩
theorem FCur.set {w : World} {b : Nat} {s : ByteArray} {p : Nat} (h : FCur w b s p) (q : Nat) : FCur (w.setCell ⟨b, 1, none⟩ (.int .i64 q)) b s q := by
 unfold FCur at h ⊢
 rw [heap_setCell_same w b 1 _ _ _ h]; rfl
theorem FCur.typed {w : World} {b : Nat} {s : ByteArray} {p : Nat} (h : FCur w b s p) : Typed w b 137 := ⟨_, _, h⟩
theorem FCur.gr {w w' : World} {b : Nat} {s : ByteArray} {p : Nat} {r : Option Nat} (h : FCur w b s p) (hg : w.grownBy w' r) (hn : some b ≠ r) : FCur w' b s p := by
 have := h.cells.2.2.2.2
 unfold FCur at h ⊢
 rw [hg.block b this hn]; exact h
theorem FCur.setCell {w : World} {b : Nat} {s : ByteArray} {p : Nat} (h : FCur w b s p) (g j : Nat) (u : Value) (hg : b ≠ g) : FCur (w.setCell ⟨g, j, none⟩ u) b s p := by
 unfold FCur at h ⊢
 rw [Below.heap_setCell _ _ _ _ hg]; exact h
theorem FCur.own {b : Nat} {w1 w2 : World} {s : ByteArray} {p : Nat} {o : Obj} {v : Value} {e : TypeId} {size n : Nat} {xs : List Value} {B : Nat} (h : FCur w1 b s p)
  (hown : w1.ownsRow B e size v n xs) (hg : (w1.alloc o).grownBy w2 v.ownBlock) (hne : e ≠ 137) : FCur w2 b s p :=
 (z07 hown hg hne _ _ _ h).trans h
def nx (s : ByteArray) (p : Nat) : Nat := if p < s.size then p + 1 else p
set_option maxHeartbeats 1000000 in
theorem fnext_any (b : Nat) (s : ByteArray) (p : Nat) (w : World) (h : FCur w b s p) (hs : s.size <= 1000) :
  Calls Tryz.prog 118 #[.pointer (some ⟨b, 0, none⟩)] w fun e w' => e = .returned (.int .u8 (pk s p)) /\ FCur w' b s (nx s p) /\ w.grownBy w' (some b) := by
 have HC := zh h
 obtain ⟨h0, h1, f0, f1, hb⟩ := h.cells
 clear h
 by_cases hlt : p < s.size
 ·have HP := zh (pk_in s p hlt)
  have HN := zh (show nx s p = p + 1 by unfold nx; rw [if_pos hlt])
  have d : decide ((s.size : Int) <= (p : Int)) = false := by simp; omega
  have d0 : (0 : Int) <= p := by omega
  have d1 : (p : Int) < s.size := by omega
  go_enter Tryz.func118, Tryz.ntmps118
  go_wp2
  go_quiet (fail)
  go_wp2
  go_quiet (fail)
  go_wp2
  go_ret
  have hcast : (p : Int) + 1 = ((p + 1 : Nat) : Int) := by omega
  rw [hcast]
  refine ⟨z11 (by rw [uh HP]), ?_, z0x (z2o _ _ _) (gr_set _ _ _ _)⟩
  rw [uh HN]
  exact FCur.set ((uh HC).gr (z2o _ _ none) (by simp)) (p + 1)
 ·have HP := zh (pk_end s p hlt)
  have HN := zh (show nx s p = p by unfold nx; rw [if_neg hlt])
  have d : decide ((s.size : Int) <= (p : Int)) = true := by simp; omega
  go_enter Tryz.func118, Tryz.ntmps118
  go_wp2
  go_quiet (fail)
  go_wp2
  go_ret
  exact ⟨z11 (by rw [uh HP]; rfl), by rw [uh HN]; exact (uh HC).gr (z2o _ _ none) (by simp), z2o _ _ _⟩
set_option maxHeartbeats 400000 in
theorem HasTrain_any (v : Value) (L : Lay) (x : Nat) (w : World) (h : CLay w v L) :
  Calls Tryz.prog 171 #[v, .int .i64 x] w fun e w' => e = .returned (.bool (decide (x < L.tns.length))) /\ Below w.heap.size w w' := by
 obtain ⟨vs, vr, vt, rfl, -, -, hS⟩ := h
 obtain ⟨a1, d1, rfl, -, hm, -⟩ := SlAt.open hS
 unfold maxLen at hm
 clear hS
 have d : decide ((0 : Int) <= (x : Int)) = true := by simp
 generalize hz : decide (x < L.tns.length) = z
 have HZ := zh (show decide ((x : Int) < L.tns.length) = z by rw [<- hz, decide_eq_decide]; omega)
 clear hz
 go_enter Tryz.func171, Tryz.ntmps171
 go_wp2
 all_goals
  go_ret
  exact ⟨z04 (by have := uh HZ; first | exact this | (simp_all; done) | (simp_all; omega)), z02 _ _⟩
set_option maxHeartbeats 400000 in
theorem HasTrain_neg (v : Value) (L : Lay) (x : Int) (w : World) (h : CLay w v L) (hx : x < 0) :
  Calls Tryz.prog 171 #[v, .int .i64 x] w fun e w' => e = .returned (.bool false) /\ Below w.heap.size w w' := by
 obtain ⟨vs, vr, vt, rfl, -, -, hS⟩ := h
 obtain ⟨a1, d1, rfl, -, hm, -⟩ := SlAt.open hS
 clear hS
 have d : decide ((0 : Int) <= x) = false := by simp; omega
 clear hx
 go_enter Tryz.func171, Tryz.ntmps171
 go_wp2
 go_ret
 exact ⟨rfl, z02 _ _⟩
set_option maxHeartbeats 400000 in
theorem HasRoute_neg (v : Value) (L : Lay) (x : Int) (w : World) (h : CLay w v L) (hx : x < 0) :
  Calls Tryz.prog 172 #[v, .int .i64 x] w fun e w' => e = .returned (.bool false) /\ Below w.heap.size w w' := by
 obtain ⟨vs, vr, vt, rfl, -, hS, -⟩ := h
 obtain ⟨a1, d1, rfl, -, hm, -⟩ := SlAt.open hS
 clear hS
 have d : decide ((0 : Int) <= x) = false := by simp; omega
 clear hx
 go_enter Tryz.func172, Tryz.ntmps172
 go_wp2
 go_ret
 exact ⟨rfl, z02 _ _⟩
set_option maxHeartbeats 400000 in
theorem HasSection_neg (v : Value) (L : Lay) (x : Int) (w : World) (h : CLay w v L) (hx : x < 0) :
  Calls Tryz.prog 120 #[v, .int .i64 x] w fun e w' => e = .returned (.bool false) /\ Below w.heap.size w w' := by
 obtain ⟨vs, vr, vt, rfl, hS, -, -⟩ := h
 obtain ⟨a1, d1, rfl, -, hm, -⟩ := SlAt.open hS
 clear hS
 have d : decide ((0 : Int) <= x) = false := by simp; omega
 clear hx
 go_enter Tryz.func120, Tryz.ntmps120
 go_wp2
 go_ret
 exact ⟨rfl, z02 _ _⟩
set_option maxHeartbeats 400000 in
theorem HasSwitch_neg (v : Value) (L : Lay) (x : Int) (w : World) (h : CLay w v L) (hx : x < 0) :
  Calls Tryz.prog 80 #[v, .int .i64 x] w fun e w' => e = .returned (.bool false) /\ Below w.heap.size w w' := by
 have H1 := zh (fun (wz : World) (hz : Below w.heap.size w wz) => HasSection_neg _ L x wz (h.below hz) hx)
 obtain ⟨vs, vr, vt, rfl, hS, -, -⟩ := h
 obtain ⟨a1, d1, rfl, -, hm, h3⟩ := SlAt.open hS
 clear hS h3 hx
 go_enter Tryz.func80, Tryz.ntmps80
 go_wp2_with fail
 refine (uh H1 _ (z02 w (z0i L _ _ _))).mono ?_
 rintro e w1 ⟨rfl, hb⟩
 have HB := zh ((z02 w (z0i L (.slice a1 L.sw.length d1) vr vt)).trans (hb.mono (by simp)))
 clear hb
 go_wp2
 go_ret
 exact ⟨rfl, uh HB⟩
def cbase (c : Nat) : Nat := if c = 114 then 49 else if c = 99 then 65 else 97
theorem num_in {x b n : Nat} (h : b <= x) : (numF x b n).isSome = decide (x - b < n) := by
 unfold numF
 by_cases h1 : x < b + n
 ·rw [if_pos ⟨h, h1⟩, decide_eq_true (by omega)]; rfl
 ·rw [if_neg (by omega), decide_eq_false (by omega)]; rfl
theorem num_out {x b n : Nat} (h : ¬ b <= x) : numF x b n = none := by
 unfold numF; rw [if_neg (by omega)]
set_option maxHeartbeats 1000000 in
theorem named_any (v : Value) (L : Lay) (c x : Nat) (w : World) (h : CLay w v L) (_hc : c < 256) (_hx : x < 256) :
  Calls Tryz.prog 119 #[v, .int .u8 c, .int .u8 x] w fun e w' => ∃ n : Int, e = .returned (.tuple #[.int .i64 n, .bool (L.cmdB c x)]) /\ (L.cmdB c x = true -> n = ((x - cbase c : Nat) : Int)) /\ Below w.heap.size w w' := by
 obtain ⟨Z, hZ⟩ : ∃ Z, Z = L.cmdB c x := ⟨_, rfl⟩
 rw [<- hZ]
 unfold Lay.cmdB at hZ
 obtain ⟨vs, vr, vt, hv, -⟩ := id h
 have HL := zh h
 have HA := zh (fun (wz : World) => z02 wz (z0i L vs vr vt))
 clear h
 subst hv
 have hcb : cbase c = if c = 114 then 49 else if c = 99 then 65 else 97 := rfl
 by_cases h1 : c = 114
 ·rw [if_pos h1] at hZ hcb
  have b1 : ((c : Int) == 114) = true := by simp [h1]
  by_cases hlo : 49 <= x
  ·obtain ⟨m, rfl⟩ : ∃ m, x = m + 49 := ⟨x - 49, by omega⟩
   rw [num_in hlo, Nat.add_sub_cancel] at hZ
   have HM := zh (Nat.add_sub_cancel m 49)
   have H1 := zh (fun (wz : World) (hz : Below w.heap.size w wz) => HasTrain_any _ L m wz ((uh HL).below hz))
   rw [<- hZ] at H1
   have HCB := zh hcb
   clear hZ h1 hlo hcb
   go_enter Tryz.func119, Tryz.ntmps119
   go_wp2_with fail
   refine (uh H1 _ (uh HA w)).mono ?_
   rintro e w1 ⟨rfl, hb1⟩
   have HB := zh ((uh HA w).trans (hb1.mono (by simp)))
   clear hb1
   go_wp2
   go_ret2
   exact ⟨(m : Int), by first | rfl | (simp <;> rfl), fun _ => by rw [uh HCB, uh HM], uh HB⟩
  ·rw [num_out hlo] at hZ
   have H1 := zh (fun (wz : World) (hz : Below w.heap.size w wz) => HasTrain_neg _ L ((x : Int) - 49) wz ((uh HL).below hz) (by omega))
   have HZ := zh (show Z = false from hZ)
   clear hZ h1 hlo hcb
   go_enter Tryz.func119, Tryz.ntmps119
   go_wp2_with fail
   refine (uh H1 _ (uh HA w)).mono ?_
   rintro e w1 ⟨rfl, hb1⟩
   have HB := zh ((uh HA w).trans (hb1.mono (by simp)))
   clear hb1
   go_wp2
   go_ret2
   exact ⟨_, by rw [uh HZ] <;> rfl, fun h => absurd h (by rw [uh HZ]; simp), uh HB⟩
 ·rw [if_neg h1] at hZ hcb
  have b1 : ((c : Int) == 114) = false := by simp; omega
  by_cases h2 : c = 99
  ·rw [if_pos h2] at hZ hcb
   have b2 : ((c : Int) == 99) = true := by simp [h2]
   by_cases hlo : 65 <= x
   ·obtain ⟨m, rfl⟩ : ∃ m, x = m + 65 := ⟨x - 65, by omega⟩
    rw [num_in hlo, Nat.add_sub_cancel] at hZ
    have HM := zh (Nat.add_sub_cancel m 65)
    have H1 := zh (fun (wz : World) (hz : Below w.heap.size w wz) => HasRoute_any _ L m wz ((uh HL).below hz))
    rw [<- hZ] at H1
    have HCB := zh hcb
    clear hZ h1 h2 hlo hcb
    go_enter Tryz.func119, Tryz.ntmps119
    go_wp2_with fail
    refine (uh H1 _ (uh HA w)).mono ?_
    rintro e w1 ⟨rfl, hb1⟩
    have HB := zh ((uh HA w).trans (hb1.mono (by simp)))
    clear hb1
    go_wp2
    go_ret2
    exact ⟨(m : Int), by first | rfl | (simp <;> rfl), fun _ => by rw [uh HCB, uh HM], uh HB⟩
   ·rw [num_out hlo] at hZ
    have H1 := zh (fun (wz : World) (hz : Below w.heap.size w wz) => HasRoute_neg _ L ((x : Int) - 65) wz ((uh HL).below hz) (by omega))
    have HZ := zh (show Z = false from hZ)
    clear hZ h1 h2 hlo hcb
    go_enter Tryz.func119, Tryz.ntmps119
    go_wp2_with fail
    refine (uh H1 _ (uh HA w)).mono ?_
    rintro e w1 ⟨rfl, hb1⟩
    have HB := zh ((uh HA w).trans (hb1.mono (by simp)))
    clear hb1
    go_wp2
    go_ret2
    exact ⟨_, by rw [uh HZ] <;> rfl, fun h => absurd h (by rw [uh HZ]; simp), uh HB⟩
  ·rw [if_neg h2] at hZ hcb
   have b2 : ((c : Int) == 99) = false := by simp; omega
   by_cases h4 : c = 109
   ·rw [if_pos h4] at hZ
    have b3 : ((c : Int) == 109) = true := by simp [h4]
    by_cases hlo : 97 <= x
    ·obtain ⟨m, rfl⟩ : ∃ m, x = m + 97 := ⟨x - 97, by omega⟩
     have HM := zh (Nat.add_sub_cancel m 97)
     have hz2 : Z = L.sw.getD m false := by
      rw [hZ]
      unfold numF
      by_cases hb : m + 97 < 97 + L.sw.length
      ·rw [if_pos ⟨hlo, hb⟩]
       simp
      ·rw [if_neg (by omega)]
       rw [List.getD_eq_getElem?_getD, List.getElem?_eq_none (by omega)]; rfl
     have H1 := zh (fun (wz : World) (hz : Below w.heap.size w wz) => z1l _ L m wz ((uh HL).below hz))
     rw [<- hz2] at H1
     have HCB := zh hcb
     clear hZ hz2 h1 h2 h4 hlo hcb
     go_enter Tryz.func119, Tryz.ntmps119
     go_wp2_with fail
     refine (uh H1 _ (uh HA w)).mono ?_
     rintro e w1 ⟨rfl, hb1⟩
     have HB := zh ((uh HA w).trans (hb1.mono (by simp)))
     clear hb1
     go_wp2
     go_ret2
     exact ⟨(m : Int), by first | rfl | (simp <;> rfl), fun _ => by rw [uh HCB, uh HM], uh HB⟩
    ·rw [num_out hlo] at hZ
     have H1 := zh (fun (wz : World) (hz : Below w.heap.size w wz) => HasSwitch_neg _ L ((x : Int) - 97) wz ((uh HL).below hz) (by omega))
     have HZ := zh (show Z = false from hZ)
     clear hZ h1 h2 h4 hlo hcb
     go_enter Tryz.func119, Tryz.ntmps119
     go_wp2_with fail
     refine (uh H1 _ (uh HA w)).mono ?_
     rintro e w1 ⟨rfl, hb1⟩
     have HB := zh ((uh HA w).trans (hb1.mono (by simp)))
     clear hb1
     go_wp2
     go_ret2
     exact ⟨_, by rw [uh HZ] <;> rfl, fun h => absurd h (by rw [uh HZ]; simp), uh HB⟩
   ·rw [if_neg h4] at hZ
    have HZ := zh hZ
    have b3 : ((c : Int) == 109) = false := by simp; omega
    clear hZ h1 h2 h4 hcb
    go_enter Tryz.func119, Tryz.ntmps119
    go_wp2
    go_ret2
    exact ⟨_, by rw [uh HZ] <;> rfl, fun h => absurd h (by rw [uh HZ]; simp), uh HA w⟩
def SameOn (R : Nat -> Prop) (w w' : World) : Prop := ∀ k, R k -> w'.heap[k]? = w.heap[k]?
theorem SameOn.trans {R : Nat -> Prop} {a b c : World} (h : SameOn R a b) (k : SameOn R b c) : SameOn R a c := fun i hi => (k i hi).trans (h i hi)
structure Only (F : Nat -> Prop) (w w' : World) : Prop where
 os : w'.os = w.os
 tape : w'.tape = w.tape
 output : w'.output = w.output
 size : w.heap.size <= w'.heap.size
 block : ∀ k, k < w.heap.size -> ¬ F k -> w'.heap[k]? = w.heap[k]?
theorem Only.refl (F : Nat -> Prop) (w : World) : Only F w w := ⟨rfl, rfl, rfl, Nat.le_refl _, fun _ _ _ => rfl⟩
theorem Only.trans {F : Nat -> Prop} {a b c : World} (h : Only F a b) (k : Only F b c) : Only F a c :=
 ⟨k.os.trans h.os, k.tape.trans h.tape, k.output.trans h.output, Nat.le_trans h.size k.size, fun i hi hf => (k.block i (Nat.lt_of_lt_of_le hi h.size) hf).trans (h.block i hi hf)⟩
theorem Only.mono {F G : Nat -> Prop} {w w' : World} (h : Only F w w') (hFG : ∀ k, F k -> G k) : Only G w w' := ⟨h.os, h.tape, h.output, h.size, fun k hk hg => h.block k hk (fun hf => hg (hFG k hf))⟩
theorem Only.of_below {F : Nat -> Prop} {w w' : World} (h : Below w.heap.size w w') : Only F w w' := ⟨h.os, h.tape, h.output, h.size, fun k hk _ => h.block k hk⟩
theorem Only.setCell {F : Nat -> Prop} {w : World} {a : Addr} (h : F a.block) (u : Value) : Only F w (w.setCell a u) :=
 ⟨rfl, rfl, rfl, by simp [World.setCell], fun k _ hf => Below.heap_setCell _ _ _ _ (fun e => hf (e ▸ h))⟩
theorem z0d {R : Nat -> Prop} {w : World} {b j : Nat} {u : Value} (h : ¬ R b) : SameOn R w (w.setCell ⟨b, j, none⟩ u) := fun k hk => Below.heap_setCell _ _ _ _ (fun e => h (by have e' : k = b := e; rw [e'] at hk; exact hk))
def PlanIn (R : Nat -> Prop) (w : World) (vh vr vt : Value) (L : Lay) : Prop := (∀ k, R k -> k < w.heap.size) /\ ∀ w', SameOn R w w' -> Bools w' vh L.sw /\ RRts w' vr L.rts /\ RTns w' vt L.tns
theorem PlanIn.same {R : Nat -> Prop} {w w' : World} {vh vr vt : Value} {L : Lay} (h : PlanIn R w vh vr vt L) (hs : SameOn R w w') (hz : w.heap.size <= w'.heap.size) : PlanIn R w' vh vr vt L :=
 ⟨fun k hk => Nat.lt_of_lt_of_le (h.1 k hk) hz, fun w'' h2 => h.2 w'' (hs.trans h2)⟩
theorem PlanIn.only {R F : Nat -> Prop} {w w' : World} {vh vr vt : Value} {L : Lay} (h : PlanIn R w vh vr vt L) (ho : Only F w w') (hd : ∀ k, R k -> ¬ F k) : PlanIn R w' vh vr vt L :=
 h.same (fun k hk => ho.block k (h.1 k hk) (hd k hk)) ho.size
def lnV (x : RLn) (m : Value) : List Value := [.int .u8 x.ph, .int .i64 x.train, .bool x.been, m, .int .i64 x.gone, .int .i64 x.count]
def lnsV (l : List RLn) (ms : List Value) : List (List Value) := List.zipWith lnV l ms
structure RM (w : World) (R : Nat -> Prop) (g : Nat) (C : RBx) (vh vr vt vl vw vf vd va vq : Value) (ms : List Value) : Prop where
 box : w.heap[g]? = some (.cells #[.int .i64 C.L.T, .int .i64 C.L.D, .int .i64 C.L.Q, vh, vr, vt, vl, vw, vf, vd, va, vq] 159 (0, 0))
 plan : PlanIn R w vh vr vt C.L
 lines : w.ownsRow 0 161 6 vl C.lines.length (lnsV C.lines ms).flatten
 mlen : ms.length = C.lines.length
 marks : ∀ i (h : i < ms.length) (h' : i < C.lines.length), w.ownsRow 0 4 1 ms[i] C.lines[i].marks.length (z0t C.lines[i].marks)
 wanted : w.ownsRow 0 5 1 vw C.wanted.length (bytsV C.wanted)
 failed : w.ownsRow 0 4 1 vf C.failed.length (z0t C.failed)
 late : w.ownsRow 0 3 1 vd C.late.length (intsV C.late)
 sta : w.ownsRow 0 3 1 va C.sta.length (intsV C.sta)
 waits : w.ownsRow 0 3 1 vq C.waits.length (intsV C.waits)
 sfm : ∀ m, m ∈ ms -> ∀ b, m.ownBlock = some b -> vf.ownBlock ≠ some b
 smm : ∀ i j (hi : i < ms.length) (hj : j < ms.length), i ≠ j -> ∀ b, ms[i].ownBlock = some b -> ms[j].ownBlock ≠ some b
 sda : ∀ b, vd.ownBlock = some b -> va.ownBlock ≠ some b
 sdq : ∀ b, vd.ownBlock = some b -> vq.ownBlock ≠ some b
 saq : ∀ b, va.ownBlock = some b -> vq.ownBlock ≠ some b
 out : ∀ b, (b = g \/ vl.ownBlock = some b \/ vw.ownBlock = some b \/ vf.ownBlock = some b \/ vd.ownBlock = some b \/ va.ownBlock = some b \/ vq.ownBlock = some b \/ ∃ m, m ∈ ms /\ m.ownBlock = some b) -> ¬ R b
theorem lnsV_len (l : List RLn) (ms : List Value) (h : ms.length = l.length) : (lnsV l ms).length = l.length := by simp [lnsV, h]
theorem z36 (l : List RLn) (ms : List Value) : ∀ c, c ∈ lnsV l ms -> c.length = 6 := by
 intro c hc
 obtain ⟨i, hi, rfl⟩ := List.getElem_of_mem hc
 simp [lnsV, lnV]
theorem z3k (l : List RLn) (ms : List Value) (i : Nat) (h : i < (lnsV l ms).length) (h1 : i < l.length) (h2 : i < ms.length) : (lnsV l ms)[i] = lnV l[i] ms[i] := by simp [lnsV]
theorem all2_zip {w : World} (l : List RLn) (ms : List Value) (hl : ms.length = l.length) (h : ∀ i (h : i < ms.length) (h' : i < l.length), Bools w ms[i] l[i].marks) : All2 (CRLn w) l (lnsV l ms) := by
 induction l generalizing ms with
 | nil => cases ms with
  | nil => trivial
  | cons a b => simp at hl
 | cons x l ih => cases ms with
  | nil => simp at hl
  | cons m ms =>
   refine ⟨⟨m, rfl, h 0 (by simp) (by simp)⟩, ih ms (by simpa using hl) (fun i h1 h2 => ?_)⟩
   have := h (i + 1) (by simp; omega) (by simp; omega)
   simpa using this
theorem RM.at {w : World} {R : Nat -> Prop} {g : Nat} {C : RBx} {vh vr vt vl vw vf vd va vq : Value} {ms : List Value} (h : RM w R g C vh vr vt vl vw vf vd va vq ms) : RBoxAt w g C := by
 obtain ⟨p1, p2, p3⟩ := h.plan.2 w (fun _ _ => rfl)
 exact ⟨vh, vr, vt, vl, vw, vf, vd, va, vq, h.box, p1, p2, p3,
  SlAt.ofOwnN h.lines (all2_zip _ _ h.mlen (fun i a b => Bools.ofOwn (h.marks i a b) rfl)) (z36 _ _) rfl,
  Byts.ofOwn h.wanted rfl, Bools.ofOwn h.failed rfl, Ints.ofOwn h.late rfl, Ints.ofOwn h.sta rfl, Ints.ofOwn h.waits rfl⟩
theorem z1w {w : World} {b : Nat} {e : TypeId} {sz : Nat} {v : Value} {n : Nat} {xs : List Value} (h : w.ownsRow b e sz v n xs) {a : Addr} (ha : v.ownBlock ≠ some a.block) (u : Value) : (w.setCell a u).ownsRow b e sz v n xs := by
 refine ⟨h.1, ?_⟩
 rcases h.2 with h2 | ⟨g, cap, cur, hv, hg, hh, r⟩
 ·exact .inl h2
 ·refine .inr ⟨g, cap, cur, hv, hg, ?_, r⟩
  rw [Below.heap_setCell _ _ _ _ (fun e => ha (by rw [hv]; simp [Value.ownBlock, e]))]; exact hh
theorem z1h {w w' : World} {b : Nat} {e : TypeId} {sz : Nat} {v : Value} {n : Nat} {xs : List Value} (h : w.ownsRow b e sz v n xs) (hb : Below w.heap.size w w') : w'.ownsRow b e sz v n xs := z0e h hb
theorem z0g {w : World} {b : Nat} {e : TypeId} {sz : Nat} {v : Value} {n : Nat} {xs : List Value} (h : w.ownsRow b e sz v n xs) {k : Nat} (hk : v.ownBlock = some k) : Typed w k e := by
 rcases h.2 with ⟨rfl, -⟩ | ⟨g, cap, cur, rfl, hg, hh, r⟩
 ·cases hk
 ·simp only [Value.ownBlock, Option.some.injEq] at hk
  subst hk
  exact ⟨_, _, hh⟩
theorem RM.below {w w' : World} {R : Nat -> Prop} {g : Nat} {C : RBx} {vh vr vt vl vw vf vd va vq : Value} {ms : List Value} (h : RM w R g C vh vr vt vl vw vf vd va vq ms) (hb : Below w.heap.size w w') : RM w' R g C vh vr vt vl vw vf vd va vq ms :=
 { h with
  box := (hb.block g (z0f h.box)).trans h.box
  plan := h.plan.same (fun k hk => hb.block k (h.plan.1 k hk)) hb.size
  lines := z1h h.lines hb
  marks := fun i a b => z1h (h.marks i a b) hb
  wanted := z1h h.wanted hb
  failed := z1h h.failed hb
  late := z1h h.late hb
  sta := z1h h.sta hb
  waits := z1h h.waits hb }
theorem intsV_set (l : List Nat) (i x : Nat) : (intsV l).set i (.int .i64 x) = intsV (l.set i x) := by simp [intsV, List.map_set]
theorem bytsV_set (l : List Nat) (i x : Nat) : (bytsV l).set i (.int .u8 x) = bytsV (l.set i x) := by simp [bytsV, List.map_set]
theorem z3r (l : List Bool) (i : Nat) (x : Bool) : (z0t l).set i (.bool x) = z0t (l.set i x) := by simp [z0t, List.map_set]
theorem RM.setLate {w : World} {R : Nat -> Prop} {g : Nat} {C : RBx} {vh vr vt vl vw vf va vq : Value} {ms : List Value} {gd n cap : Nat} (h : RM w R g C vh vr vt vl vw vf (.slice (some ⟨gd, 0, none⟩) n cap) va vq ms) (hn : n = C.late.length) (i x : Nat) :
  RM (w.setCell ⟨gd, i, none⟩ (.int .i64 x)) R g { C with late := C.late.set i x } vh vr vt vl vw vf (.slice (some ⟨gd, 0, none⟩) n cap) va vq ms := by
 subst hn
 have hT := z0g h.late (k := gd) rfl
 have kk := fun e (n2 : 3 ≠ e) => Keeps.setCell ⟨gd, i, none⟩ (.int .i64 x) hT n2
 refine { h with box := ?_, plan := ?_, lines := ?_, marks := ?_, wanted := ?_, failed := ?_, late := ?_, sta := ?_, waits := ?_ }
 ·exact (kk _ (by decide) _ _ _ h.box).trans h.box
 ·exact h.plan.same (z0d (h.out gd (.inr (.inr (.inr (.inr (.inl rfl))))))) (by simp [World.setCell])
 ·exact z01 h.lines (kk _ (by decide))
 ·exact fun i a b => z01 (h.marks i a b) (kk _ (by decide))
 ·exact z01 h.wanted (kk _ (by decide))
 ·exact z01 h.failed (kk _ (by decide))
 ·have := (h.late.stored i (.int .i64 x)).1
  rw [intsV_set] at this
  simpa using this
 ·exact z1w h.sta (h.sda gd rfl) _
 ·exact z1w h.waits (h.sdq gd rfl) _
theorem RM.setFailed {w : World} {R : Nat -> Prop} {g : Nat} {C : RBx} {vh vr vt vl vw vd va vq : Value} {ms : List Value} {gf n cap : Nat} (h : RM w R g C vh vr vt vl vw (.slice (some ⟨gf, 0, none⟩) n cap) vd va vq ms) (hn : n = C.failed.length) (i : Nat) (x : Bool) :
  RM (w.setCell ⟨gf, i, none⟩ (.bool x)) R g { C with failed := C.failed.set i x } vh vr vt vl vw (.slice (some ⟨gf, 0, none⟩) n cap) vd va vq ms := by
 subst hn
 have hT := z0g h.failed (k := gf) rfl
 have kk := fun e (n2 : 4 ≠ e) => Keeps.setCell ⟨gf, i, none⟩ (.bool x) hT n2
 refine { h with box := ?_, plan := ?_, lines := ?_, marks := ?_, wanted := ?_, failed := ?_, late := ?_, sta := ?_, waits := ?_ }
 ·exact (kk _ (by decide) _ _ _ h.box).trans h.box
 ·exact h.plan.same (z0d (h.out gf (.inr (.inr (.inr (.inl rfl)))))) (by simp [World.setCell])
 ·exact z01 h.lines (kk _ (by decide))
 ·exact fun i a b => z1w (h.marks i a b) (fun e => h.sfm _ (List.getElem_mem a) gf e rfl) _
 ·exact z01 h.wanted (kk _ (by decide))
 ·have := (h.failed.stored i (.bool x)).1
  rw [z3r] at this
  simpa using this
 ·exact z01 h.late (kk _ (by decide))
 ·exact z01 h.sta (kk _ (by decide))
 ·exact z01 h.waits (kk _ (by decide))
theorem RM.setWanted {w : World} {R : Nat -> Prop} {g : Nat} {C : RBx} {vh vr vt vl vf vd va vq : Value} {ms : List Value} {gw n cap : Nat} (h : RM w R g C vh vr vt vl (.slice (some ⟨gw, 0, none⟩) n cap) vf vd va vq ms) (hn : n = C.wanted.length) (i x : Nat) :
  RM (w.setCell ⟨gw, i, none⟩ (.int .u8 x)) R g { C with wanted := C.wanted.set i x } vh vr vt vl (.slice (some ⟨gw, 0, none⟩) n cap) vf vd va vq ms := by
 subst hn
 have hT := z0g h.wanted (k := gw) rfl
 have kk := fun e (n2 : 5 ≠ e) => Keeps.setCell ⟨gw, i, none⟩ (.int .u8 x) hT n2
 refine { h with box := ?_, plan := ?_, lines := ?_, marks := ?_, wanted := ?_, failed := ?_, late := ?_, sta := ?_, waits := ?_ }
 ·exact (kk _ (by decide) _ _ _ h.box).trans h.box
 ·exact h.plan.same (z0d (h.out gw (.inr (.inr (.inl rfl))))) (by simp [World.setCell])
 ·exact z01 h.lines (kk _ (by decide))
 ·exact fun i a b => z01 (h.marks i a b) (kk _ (by decide))
 ·have := (h.wanted.stored i (.int .u8 x)).1
  rw [bytsV_set] at this
  simpa using this
 ·exact z01 h.failed (kk _ (by decide))
 ·exact z01 h.late (kk _ (by decide))
 ·exact z01 h.sta (kk _ (by decide))
 ·exact z01 h.waits (kk _ (by decide))
theorem RM.setSta {w : World} {R : Nat -> Prop} {g : Nat} {C : RBx} {vh vr vt vl vw vf vd vq : Value} {ms : List Value} {ga n cap : Nat} (h : RM w R g C vh vr vt vl vw vf vd (.slice (some ⟨ga, 0, none⟩) n cap) vq ms) (hn : n = C.sta.length) (i x : Nat) :
  RM (w.setCell ⟨ga, i, none⟩ (.int .i64 x)) R g { C with sta := C.sta.set i x } vh vr vt vl vw vf vd (.slice (some ⟨ga, 0, none⟩) n cap) vq ms := by
 subst hn
 have hT := z0g h.sta (k := ga) rfl
 have kk := fun e (n2 : 3 ≠ e) => Keeps.setCell ⟨ga, i, none⟩ (.int .i64 x) hT n2
 refine { h with box := ?_, plan := ?_, lines := ?_, marks := ?_, wanted := ?_, failed := ?_, late := ?_, sta := ?_, waits := ?_ }
 ·exact (kk _ (by decide) _ _ _ h.box).trans h.box
 ·exact h.plan.same (z0d (h.out ga (.inr (.inr (.inr (.inr (.inr (.inl rfl)))))))) (by simp [World.setCell])
 ·exact z01 h.lines (kk _ (by decide))
 ·exact fun i a b => z01 (h.marks i a b) (kk _ (by decide))
 ·exact z01 h.wanted (kk _ (by decide))
 ·exact z01 h.failed (kk _ (by decide))
 ·exact z1w h.late (fun e => h.sda ga e rfl) _
 ·have := (h.sta.stored i (.int .i64 x)).1
  rw [intsV_set] at this
  simpa using this
 ·exact z1w h.waits (h.saq ga rfl) _
theorem z1d {P : Nat -> Prop} {w w' : World} {b : Nat} {e : TypeId} {sz : Nat} {v : Value} {n : Nat} {xs : List Value} (h : w.ownsRow b e sz v n xs) (hs : SameOn P w w') (hP : ∀ k, v.ownBlock = some k -> P k) : w'.ownsRow b e sz v n xs := by
 refine ⟨h.1, ?_⟩
 rcases h.2 with h2 | ⟨g, cap, cur, hv, hg, hh, r⟩
 ·exact .inl h2
 ·exact .inr ⟨g, cap, cur, hv, hg, (hs g (hP g (by rw [hv]; rfl))).trans hh, r⟩
def FrIn (P : Nat -> Prop) (w : World) (v : Value) (f : Fr) : Prop := (∀ k, P k -> k < w.heap.size) /\ ∀ w', SameOn P w w' -> FrAt w' v f
theorem FrIn.at {P : Nat -> Prop} {w : World} {v : Value} {f : Fr} (h : FrIn P w v f) : FrAt w v f := h.2 w (fun _ _ => rfl)
theorem FrIn.only {P F : Nat -> Prop} {w w' : World} {v : Value} {f : Fr} (h : FrIn P w v f) (ho : Only F w w') (hd : ∀ k, P k -> ¬ F k) : FrIn P w' v f :=
 ⟨fun k hk => Nat.lt_of_lt_of_le (h.1 k hk) ho.size, fun w2 h2 => h.2 w2 (fun k hk => (h2 k hk).trans (ho.block k (h.1 k hk) (hd k hk)))⟩
theorem FrIn.below {P : Nat -> Prop} {w w' : World} {v : Value} {f : Fr} (h : FrIn P w v f) (hb : Below w.heap.size w w') : FrIn P w' v f :=
 ⟨fun k hk => Nat.lt_of_lt_of_le (h.1 k hk) hb.size, fun w2 h2 => h.2 w2 (fun k hk => (h2 k hk).trans (hb.block k (h.1 k hk)))⟩
theorem fr_in {w : World} {B B0 : Nat} {vo vp : Value} {oc : List Bool} {re : List Nat} {c : ByteArray} (ho : w.ownsRow B 4 1 vo oc.length (z0t oc)) (hp : w.ownsRow B 5 1 vp re.length (bytsV re)) (hB : B0 <= B) :
  FrIn (fun k => B0 <= k /\ k < w.heap.size) w (.agg #[vo, vp, .string c]) ⟨oc, re, c⟩ :=
 ⟨fun k hk => hk.2, fun w' hs => ⟨vo, vp, rfl,
  Bools.ofOwn (z1d ho hs (fun k hk => by have := ho.lt k hk; exact ⟨by omega, this.2⟩)) rfl,
  Byts.ofOwn (z1d hp hs (fun k hk => by have := hp.lt k hk; exact ⟨by omega, this.2⟩)) rfl⟩⟩
end Go.Proofs.YtkbpocecbcaiiaaGreatDoor
