import Derived.Test.YtkbpocecbcaiiaaGreatDoorG2
import Derived.Deep.QuietTactic
import Derived.BigQuiet
import Derived.WalkSmall
import Derived.Test.YtkbpocecbcaiiaaGreatDoorG1
import Derived.Deep.RegionLaw
/-
  THE WALK OVER railsref.crooked.
-/
namespace Go.Proofs.YtkbpocecbcaiiaaGreatDoor
open Go.RowKit

theorem timesZ_nat (l : List Nat) (s : Nat) : timesZ l s = ((l.filter (· == s)).length : Int) := by
  unfold timesZ
  have : (fun y : Nat => ((y : Int) == (s : Int))) = (· == s) := by
    funext y; rw [Bool.eq_iff_iff]; simp; omega
  rw [this]
theorem secs_at (p : List (Nat × Nat)) (k : Nat) (h : k < p.length) (h' : k < (secs p).length) : (secs p)[k] = (p.getD k (0, 0)).1 := by
  simp [secs, List.getD_eq_getElem?_getD, List.getElem?_eq_getElem h]
theorem signs_at (p : List (Nat × Nat)) (k : Nat) (h : k < p.length) (h' : k < (signs p).length) : (signs p)[k] = (p.getD k (0, 0)).2 := by
  simp [signs, List.getD_eq_getElem?_getD, List.getElem?_eq_getElem h]
theorem any_range_succ (p : Nat → Bool) (n : Nat) : (List.range (n + 1)).any p = ((List.range n).any p || p n) := by
  rw [List.range_succ, List.any_append]; simp
theorem any_range_true (p : Nat → Bool) (n k : Nat) (h : k < n) (hp : p k = true) : (List.range n).any p = true :=
  List.any_eq_true.2 ⟨k, List.mem_range.2 h, hp⟩
theorem sw_at (l : List Bool) (s : Nat) (h : s < l.length) : l.getD s false = l[s] := by
  simp [List.getD_eq_getElem?_getD, List.getElem?_eq_getElem h]

set_option maxHeartbeats 4000000 in
theorem crooked_any (v : Value) (L : Lay) (r : Rt) (vp vs vf vl : Value) (w : World) (h : RPlan w v L) (hr : CRRt w r [.int .i64 r.foot, vp, vs, vf, vl]) (hp : L.Paths) :
    Calls Tryz.prog 116 #[v, .agg #[.int .i64 r.foot, vp, vs, vf, vl]] w fun e w' => e = .returned (.bool (L.crooked r)) ∧ Below w.heap.size w w' := by
  have HR := hide h
  obtain ⟨vh, vr, vt, rfl, hH, -, -⟩ := h
  obtain ⟨aoh, caph, rfl, h1, h2, h3⟩ := SlAt.open hH
  obtain ⟨_, _, _, _, he, hP, hS, hF, hL⟩ := hr
  simp only [List.cons.injEq, and_true, true_and] at he
  obtain ⟨rfl, rfl, rfl, rfl⟩ := he
  have HP := hide hP
  have HF := hide hF
  obtain ⟨aop, capp, rfl, p1, p2, p3⟩ := SlAt.open hP
  obtain ⟨aos, caps, rfl, s1, s2, s3⟩ := SlAt.open hS
  obtain ⟨aof, capf, rfl, f1, f2, f3⟩ := SlAt.open hF
  have HPS := hide hp
  clear hH hP hS hF hL hp
  unfold maxLen at h2 p2 s2 f2
  generalize hzz : L.crooked r = z
  have HZ := hide hzz
  clear hzz
  by_cases c0 : L.sw.length ≤ r.foot
  · have hz := hide (show z = true by rw [← unhide HZ]; simp [Lay.crooked, c0])
    clear h3 p3 s3 f3
    go_enter Tryz.func116, Tryz.ntmps116
    go_wp2
    go_ret
    exact ⟨ret_bool (unhide hz).symm, two_below (Below.refl _ _)⟩
  have HZ2 := hide (show z = ((List.range r.path.length).any (L.badPath r) || (List.range r.flank.length).any (L.badFlank r)) by rw [← unhide HZ]; simp [Lay.crooked, c0])
  clear HZ
  have hpl : (secs r.path).length = r.path.length := by simp [secs]
  have hsl : (signs r.path).length = r.path.length := by simp [signs]
  have hfl : (secs r.flank).length = r.flank.length := by simp [secs]
  have HPL := hide hpl
  have HSL := hide hsl
  have HFL := hide hfl
  clear hpl hsl hfl
  go_enter Tryz.func116, Tryz.ntmps116
  go_wp2
  go_loopw [5] (fun i wr => ∃ k : Nat, k ≤ (secs r.path).length ∧ i = .int .i64 k ∧ (List.range k).any (L.badPath r) = false ∧
      Below (w.heap.size + 2) ((w.alloc (planBox L (.slice aoh L.sw.length caph) vr vt)).alloc (rrtBox r (.slice aop (secs r.path).length capp) (.slice aos (signs r.path).length caps) (.slice aof (secs r.flank).length capf) vl)) wr) (fun i _ => (secs r.path).length - (intOf i).toNat)
  case atStart => exact ⟨0, Nat.zero_le _, rfl, rfl, Below.refl _ _⟩
  case round =>
    obtain ⟨k, hk, rfl, hz, hb⟩ := hrel
    have HQ := hide hz
    have HB := hide hb
    obtain ⟨q0, q1, q2, q3, q4, q5⟩ := two_plan hb
    obtain ⟨y0, y1, y2, y3, y4⟩ := two_rrt hb
    have qs := two_size hb
    clear hz
    by_cases hlt : k < (secs r.path).length
    · have hlt' : k < r.path.length := by have := unhide HPL; omega
      have hlts : k < (signs r.path).length := by have := unhide HSL; omega
      obtain ⟨gp, offp, hao, hgp, cs, -, hC, hc⟩ := p3 k hlt
      subst hao
      unfold CInt at hC
      subst hC
      have hc0 := hc 0 (by omega)
      rw [← (two_below hb).cell (p := ⟨gp, _, none⟩) hgp] at hc0
      obtain ⟨gs, offs, hao, hgs, cs2, -, hC2, hd⟩ := s3 k hlts
      subst hao
      unfold CByte at hC2
      subst hC2
      have hd0 := hd 0 (by omega)
      rw [← (two_below hb).cell (p := ⟨gs, _, none⟩) hgs] at hd0
      have HBP := hide (show L.badPath r k = (decide (L.sw.length ≤ (secs r.path)[k]) || decide ((1 : Int) < timesZ (secs r.path) (secs r.path)[k]) || (secs r.path)[k] == r.foot || (L.sw.getD (secs r.path)[k] false != ((signs r.path)[k] != 0))) by
        rw [timesZ_nat, secs_at _ _ hlt' hlt, signs_at _ _ hlt' hlts, Lay.badPath]
        congr 3
        rw [decide_eq_decide]; omega)
      have HIP := hide ((unhide HP).below (two_below hb))
      simp at hc0 hd0
      clear hc hd p3 s3 f3 hb
      generalize (secs r.path)[k] = s at *
      generalize (signs r.path)[k] = sg at *
      generalize htz : timesZ (secs r.path) s = n at *
      have HT := hide htz
      clear htz
      have hb3 := hide (two_below (unhide HB))
      have HTR := hide (fun (h : L.badPath r k = true) => show z = true by rw [unhide HZ2, any_range_true _ _ k hlt' h, Bool.true_or])
      by_cases c1 : L.sw.length ≤ s
      · have hz := hide (unhide HTR (by rw [unhide HBP]; simp [c1]))
        have d1 : decide ((L.sw.length : Int) ≤ (s : Int)) = true := by simp; omega
        go_wp2_with (go_at_call 155; refine (times_any _ _ _ _ (unhide HIP)).mono ?_; rw [unhide HT]; rintro e w' ⟨rfl, rfl⟩)
        go_quiet (fail)
        go_wp2
        go_ret
        exact ⟨ret_bool (unhide hz).symm, below_drewN (unhide hb3) _⟩
      have d1 : decide ((L.sw.length : Int) ≤ (s : Int)) = false := by simp; omega
      by_cases c2 : 1 < n
      · have hz := hide (unhide HTR (by rw [unhide HBP]; simp [c2]))
        have d2 : decide ((1 : Int) < n) = true := by simp; omega
        go_wp2_with (go_at_call 155; refine (times_any _ _ _ _ (unhide HIP)).mono ?_; rw [unhide HT]; rintro e w' ⟨rfl, rfl⟩)
        go_quiet (fail)
        go_wp2
        go_ret
        exact ⟨ret_bool (unhide hz).symm, below_drewN (unhide hb3) _⟩
      have d2 : decide ((1 : Int) < n) = false := by simp; omega
      by_cases c3 : s = r.foot
      · have hz := hide (unhide HTR (by rw [unhide HBP]; simp [c3]))
        have d3 : ((s : Int) == (r.foot : Int)) = true := by simp; omega
        clear c3
        go_wp2_with (go_at_call 155; refine (times_any _ _ _ _ (unhide HIP)).mono ?_; rw [unhide HT]; rintro e w' ⟨rfl, rfl⟩)
        go_quiet (fail)
        go_wp2
        go_ret
        exact ⟨ret_bool (unhide hz).symm, below_drewN (unhide hb3) _⟩
      have d3 : ((s : Int) == (r.foot : Int)) = false := by simp; omega
      have hss : s < L.sw.length := by omega
      obtain ⟨gh, offh, hao, hgh, cs3, -, hC3, he⟩ := h3 s hss
      subst hao
      unfold CBool at hC3
      subst hC3
      have he0 := he 0 (by omega)
      rw [← (two_below (unhide HB)).cell (p := ⟨gh, _, none⟩) hgh] at he0
      rw [sw_at _ _ hss] at HBP
      simp at he0
      clear he h3
      generalize L.sw[s] = b at *
      have hBP := hide (show L.badPath r k = (b != (sg != 0)) by rw [unhide HBP]; simp [c1, c2, c3])
      clear HBP
      have hz0 : (0 : Int) ≤ s := by omega
      have hz1 : (s : Int) < L.sw.length := by omega
      have HAS := hide (any_range_succ (L.badPath r) k)
      have hbc : b = true ∨ b = false := by cases b <;> simp
      rcases hbc with rfl | rfl <;> by_cases hs0 : sg = 0
      · have hz := hide (unhide HTR (by rw [unhide hBP]; simp [hs0]))
        have d4 : ((sg : Int) != 0) = false := by simp; omega
        clear hs0
        go_wp2_with (go_at_call 155; refine (times_any _ _ _ _ (unhide HIP)).mono ?_; rw [unhide HT]; rintro e w' ⟨rfl, rfl⟩)
        go_quiet (fail)
        go_wp2
        go_ret
        exact ⟨ret_bool (unhide hz).symm, below_drewN (unhide hb3) _⟩
      · have hz := hide (show L.badPath r k = false by rw [unhide hBP]; simp [hs0])
        have d4 : ((sg : Int) != 0) = true := by simp; omega
        clear hs0
        go_wp2_with (go_at_call 155; refine (times_any _ _ _ _ (unhide HIP)).mono ?_; rw [unhide HT]; rintro e w' ⟨rfl, rfl⟩)
        go_quiet (fail)
        go_wp2
        exact ⟨⟨k + 1, by omega, by go_num, by rw [unhide HAS, unhide HQ, unhide hz]; rfl, below_drewN (unhide HB) _⟩, by simp [intOf]; omega⟩
      · have hz := hide (show L.badPath r k = false by rw [unhide hBP]; simp [hs0])
        have d4 : ((sg : Int) != 0) = false := by simp; omega
        clear hs0
        go_wp2_with (go_at_call 155; refine (times_any _ _ _ _ (unhide HIP)).mono ?_; rw [unhide HT]; rintro e w' ⟨rfl, rfl⟩)
        go_quiet (fail)
        go_wp2
        exact ⟨⟨k + 1, by omega, by go_num, by rw [unhide HAS, unhide HQ, unhide hz]; rfl, below_drewN (unhide HB) _⟩, by simp [intOf]; omega⟩
      · have hz := hide (unhide HTR (by rw [unhide hBP]; simp [hs0]))
        have d4 : ((sg : Int) != 0) = true := by simp; omega
        clear hs0
        go_wp2_with (go_at_call 155; refine (times_any _ _ _ _ (unhide HIP)).mono ?_; rw [unhide HT]; rintro e w' ⟨rfl, rfl⟩)
        go_quiet (fail)
        go_wp2
        go_ret
        exact ⟨ret_bool (unhide hz).symm, below_drewN (unhide hb3) _⟩
    · have HZ3 := hide (show z = (List.range r.flank.length).any (L.badFlank r) by
        have hk' : k = r.path.length := by have := unhide HPL; omega
        rw [unhide HZ2, ← hk', unhide HQ, Bool.false_or])
      clear HZ2 hb
      go_wp2
      go_loopw [8] (fun i wr => ∃ k : Nat, k ≤ (secs r.flank).length ∧ i = .int .i64 k ∧ (List.range k).any (L.badFlank r) = false ∧
          Below (w.heap.size + 2) ((w.alloc (planBox L (.slice aoh L.sw.length caph) vr vt)).alloc (rrtBox r (.slice aop (secs r.path).length capp) (.slice aos (signs r.path).length caps) (.slice aof (secs r.flank).length capf) vl)) wr) (fun i _ => (secs r.flank).length - (intOf i).toNat)
      case atStart => exact ⟨0, Nat.zero_le _, rfl, rfl, unhide HB⟩
      case round =>
      clear HQ HB q0 q1 q2 q3 q4 q5 y0 y1 y2 y3 y4 qs hk hlt
      obtain ⟨k, hk, rfl, hz, hb⟩ := hrel
      have HQ := hide hz
      have HB := hide hb
      obtain ⟨q0, q1, q2, q3, q4, q5⟩ := two_plan hb
      obtain ⟨y0, y1, y2, y3, y4⟩ := two_rrt hb
      have qs := two_size hb
      clear hz
      by_cases hlt : k < (secs r.flank).length
      · have hlt' : k < r.flank.length := by have := unhide HFL; omega
        obtain ⟨gf, offf, hao, hgf, cs, -, hC, hc⟩ := f3 k hlt
        subst hao
        unfold CInt at hC
        subst hC
        have hc0 := hc 0 (by omega)
        rw [← (two_below hb).cell (p := ⟨gf, _, none⟩) hgf] at hc0
        have HBP := hide (show L.badFlank r k = (decide (L.sw.length ≤ (secs r.flank)[k]) || decide ((1 : Int) < timesZ (secs r.flank) (secs r.flank)[k]) || decide ((0 : Int) < timesZ (secs r.path) (secs r.flank)[k]) || L.endsB (secs r.flank)[k] || !L.sw.getD (secs r.flank)[k] false) by
          rw [times_has, timesZ_nat, secs_at _ _ hlt' hlt, Lay.badFlank]
          congr 4
          rw [decide_eq_decide]; omega)
        have HIP := hide ((unhide HP).below (two_below hb))
        have HIF := hide ((unhide HF).below (two_below hb))
        simp at hc0
        clear hc p3 s3 f3 hb
        generalize (secs r.flank)[k] = s at *
        generalize htz : timesZ (secs r.flank) s = n at *
        have HT := hide htz
        clear htz
        generalize htz : timesZ (secs r.path) s = m at *
        have HM := hide htz
        clear htz
        generalize htz : L.endsB s = eb at *
        have HE := hide htz
        clear htz
        have HTR := hide (fun (h : L.badFlank r k = true) => show z = true by rw [unhide HZ3]; exact any_range_true _ _ k hlt' h)
        have HAS := hide (any_range_succ (L.badFlank r) k)
        by_cases c1 : L.sw.length ≤ s
        · have hz := hide (unhide HTR (by rw [unhide HBP]; simp [c1]))
          have d1 : decide ((L.sw.length : Int) ≤ (s : Int)) = true := by simp; omega
          go_wp2_with fail
          refine (times_any _ _ _ _ (unhide HIF)).mono ?_
          rw [unhide HT]
          rintro e w' ⟨rfl, rfl⟩
          go_wp2_with fail
          refine (times_any _ _ _ _ (unhide HIP)).mono ?_
          rw [unhide HM]
          rintro e w' ⟨rfl, rfl⟩
          go_wp2_with fail
          refine (ends_any _ L s _ ((unhide HR).below (two_below (unhide HB))) (unhide HPS)).mono ?_
          rw [unhide HE]
          rintro e w1 ⟨rfl, hb1⟩
          have hb5 := (unhide HB).trans (hb1.mono (B' := w.heap.size + 2) (by omega))
          clear q0 q1 q2 q3 q4 q5 y0 y1 y2 y3 y4 hc0
          obtain ⟨q0, q1, q2, q3, q4, q5⟩ := two_plan hb5
          have hb6 := hide (two_below hb5)
          have HB5 := hide hb5
          clear hb1 hb5
          go_wp2
          go_ret
          exact ⟨ret_bool (unhide hz).symm, unhide hb6⟩
        have d1 : decide ((L.sw.length : Int) ≤ (s : Int)) = false := by simp; omega
        by_cases c2 : 1 < n
        · have hz := hide (unhide HTR (by rw [unhide HBP]; simp [c2]))
          have d2 : decide ((1 : Int) < n) = true := by simp; omega
          go_wp2_with fail
          refine (times_any _ _ _ _ (unhide HIF)).mono ?_
          rw [unhide HT]
          rintro e w' ⟨rfl, rfl⟩
          go_wp2_with fail
          refine (times_any _ _ _ _ (unhide HIP)).mono ?_
          rw [unhide HM]
          rintro e w' ⟨rfl, rfl⟩
          go_wp2_with fail
          refine (ends_any _ L s _ ((unhide HR).below (two_below (unhide HB))) (unhide HPS)).mono ?_
          rw [unhide HE]
          rintro e w1 ⟨rfl, hb1⟩
          have hb5 := (unhide HB).trans (hb1.mono (B' := w.heap.size + 2) (by omega))
          clear q0 q1 q2 q3 q4 q5 y0 y1 y2 y3 y4 hc0
          obtain ⟨q0, q1, q2, q3, q4, q5⟩ := two_plan hb5
          have hb6 := hide (two_below hb5)
          have HB5 := hide hb5
          clear hb1 hb5
          go_wp2
          go_ret
          exact ⟨ret_bool (unhide hz).symm, unhide hb6⟩
        have d2 : decide ((1 : Int) < n) = false := by simp; omega
        by_cases c3 : 0 < m
        · have hz := hide (unhide HTR (by rw [unhide HBP]; simp [c3]))
          have d3 : decide ((0 : Int) < m) = true := by simp; omega
          go_wp2_with fail
          refine (times_any _ _ _ _ (unhide HIF)).mono ?_
          rw [unhide HT]
          rintro e w' ⟨rfl, rfl⟩
          go_wp2_with fail
          refine (times_any _ _ _ _ (unhide HIP)).mono ?_
          rw [unhide HM]
          rintro e w' ⟨rfl, rfl⟩
          go_wp2_with fail
          refine (ends_any _ L s _ ((unhide HR).below (two_below (unhide HB))) (unhide HPS)).mono ?_
          rw [unhide HE]
          rintro e w1 ⟨rfl, hb1⟩
          have hb5 := (unhide HB).trans (hb1.mono (B' := w.heap.size + 2) (by omega))
          clear q0 q1 q2 q3 q4 q5 y0 y1 y2 y3 y4 hc0
          obtain ⟨q0, q1, q2, q3, q4, q5⟩ := two_plan hb5
          have hb6 := hide (two_below hb5)
          have HB5 := hide hb5
          clear hb1 hb5
          go_wp2
          go_ret
          exact ⟨ret_bool (unhide hz).symm, unhide hb6⟩
        have d3 : decide ((0 : Int) < m) = false := by simp; omega
        have hec : eb = true ∨ eb = false := by cases eb <;> simp
        rcases hec with rfl | rfl
        · have hz := hide (unhide HTR (by rw [unhide HBP]; simp))
          go_wp2_with fail
          refine (times_any _ _ _ _ (unhide HIF)).mono ?_
          rw [unhide HT]
          rintro e w' ⟨rfl, rfl⟩
          go_wp2_with fail
          refine (times_any _ _ _ _ (unhide HIP)).mono ?_
          rw [unhide HM]
          rintro e w' ⟨rfl, rfl⟩
          go_wp2_with fail
          refine (ends_any _ L s _ ((unhide HR).below (two_below (unhide HB))) (unhide HPS)).mono ?_
          rw [unhide HE]
          rintro e w1 ⟨rfl, hb1⟩
          have hb5 := (unhide HB).trans (hb1.mono (B' := w.heap.size + 2) (by omega))
          clear q0 q1 q2 q3 q4 q5 y0 y1 y2 y3 y4 hc0
          obtain ⟨q0, q1, q2, q3, q4, q5⟩ := two_plan hb5
          have hb6 := hide (two_below hb5)
          have HB5 := hide hb5
          clear hb1 hb5
          go_wp2
          go_ret
          exact ⟨ret_bool (unhide hz).symm, unhide hb6⟩
        have hss : s < L.sw.length := by omega
        obtain ⟨gh, offh, hao, hgh, cs3, -, hC3, he⟩ := h3 s hss
        subst hao
        unfold CBool at hC3
        subst hC3
        have he0 := he 0 (by omega)
        rw [sw_at _ _ hss] at HBP
        simp at he0
        clear he h3
        generalize L.sw[s] = b at *
        have hBP := hide (show L.badFlank r k = !b by rw [unhide HBP]; simp [c1, c2, c3])
        clear HBP
        have hz0 : (0 : Int) ≤ s := by omega
        have hz1 : (s : Int) < L.sw.length := by omega
        have hbc : b = true ∨ b = false := by cases b <;> simp
        rcases hbc with rfl | rfl
        · have hz := hide (show L.badFlank r k = false by rw [unhide hBP]; rfl)
          go_wp2_with fail
          refine (times_any _ _ _ _ (unhide HIF)).mono ?_
          rw [unhide HT]
          rintro e w' ⟨rfl, rfl⟩
          go_wp2_with fail
          refine (times_any _ _ _ _ (unhide HIP)).mono ?_
          rw [unhide HM]
          rintro e w' ⟨rfl, rfl⟩
          go_wp2_with fail
          refine (ends_any _ L s _ ((unhide HR).below (two_below (unhide HB))) (unhide HPS)).mono ?_
          rw [unhide HE]
          rintro e w1 ⟨rfl, hb1⟩
          have hb5 := (unhide HB).trans (hb1.mono (B' := w.heap.size + 2) (by omega))
          clear q0 q1 q2 q3 q4 q5 y0 y1 y2 y3 y4 hc0
          obtain ⟨q0, q1, q2, q3, q4, q5⟩ := two_plan hb5
          have hb6 := hide (two_below hb5)
          have HB5 := hide hb5
          clear hb1 hb5
          rw [← (unhide hb6).cell (p := ⟨gh, _, none⟩) hgh] at he0
          go_wp2
          exact ⟨⟨k + 1, by omega, by go_num, by rw [unhide HAS, unhide HQ, unhide hz]; rfl, unhide HB5⟩, by simp [intOf]; omega⟩
        · have hz := hide (unhide HTR (by rw [unhide hBP]; rfl))
          go_wp2_with fail
          refine (times_any _ _ _ _ (unhide HIF)).mono ?_
          rw [unhide HT]
          rintro e w' ⟨rfl, rfl⟩
          go_wp2_with fail
          refine (times_any _ _ _ _ (unhide HIP)).mono ?_
          rw [unhide HM]
          rintro e w' ⟨rfl, rfl⟩
          go_wp2_with fail
          refine (ends_any _ L s _ ((unhide HR).below (two_below (unhide HB))) (unhide HPS)).mono ?_
          rw [unhide HE]
          rintro e w1 ⟨rfl, hb1⟩
          have hb5 := (unhide HB).trans (hb1.mono (B' := w.heap.size + 2) (by omega))
          clear q0 q1 q2 q3 q4 q5 y0 y1 y2 y3 y4 hc0
          obtain ⟨q0, q1, q2, q3, q4, q5⟩ := two_plan hb5
          have hb6 := hide (two_below hb5)
          have HB5 := hide hb5
          clear hb1 hb5
          rw [← (unhide hb6).cell (p := ⟨gh, _, none⟩) hgh] at he0
          go_wp2
          go_ret
          exact ⟨ret_bool (unhide hz).symm, unhide hb6⟩
      · have hz := hide (show z = false by
          have hk' : k = r.flank.length := by have := unhide HFL; omega
          rw [unhide HZ3, ← hk', unhide HQ])
        have hb3 := two_below (unhide HB)
        clear hb
        go_wp2
        go_ret
        exact ⟨ret_bool (unhide hz).symm, hb3⟩
end Go.Proofs.YtkbpocecbcaiiaaGreatDoor

/-
  THE WALK OVER railsref.split.
-/
namespace Go.Proofs.YtkbpocecbcaiiaaGreatDoor
open Go.RowKit

theorem Tryz.infoStr : (Tryz.prog.info? 9).map (fun i => (i.zero, i.size, i.bytes)) = some (some (.string ByteArray.empty), 1, 16) := by kernel_rfl

theorem extract_eq (s : ByteArray) (f k : Nat) : s.extract f k = ⟨((s.data.toList.take k).drop f).toArray⟩ := by
  apply ByteArray.ext
  apply Array.ext'
  simp [ByteArray.data_extract, List.extract_eq_take_drop, List.drop_take]
theorem take_drop_snoc (s : ByteArray) (f k : Nat) (hk : k < s.size) (hf : f ≤ k) : (s.data.toList.take (k + 1)).drop f = (s.data.toList.take k).drop f ++ [s[k]] := by
  rw [List.take_succ_eq_append_getElem (by simpa using hk), List.drop_append_of_le_length (by simp; omega)]; rfl

set_option maxHeartbeats 400000 in
theorem split_any (s : ByteArray) (c : UInt8) (w : World) (hs : s.size ≤ 1000) :
    Calls Tryz.prog 166 #[.string s, .int .u8 c.toNat] w fun e w' => ∃ v', e = .returned v' ∧ Strs w' v' (splitA c [] s.data.toList) ∧ Below w.heap.size w w' := by
  obtain ⟨i0, hi0⟩ := info_parts Tryz.infoStr
  have HI := hide hi0
  clear hi0
  generalize hzz : splitA c [] s.data.toList = z
  have HZ := hide hzz
  clear hzz
  go_enter Tryz.func166, Tryz.ntmps166
  go_wp2
  go_loopw [5, 6, 7] (fun r fr i wr => ∃ k f : Nat, ∃ g : List (List UInt8), k ≤ s.size ∧ f ≤ k ∧ i = .int .i64 k ∧ fr = .int .i64 f ∧ g.length ≤ f ∧ wr.ownsRow w.heap.size 9 1 r g.length (strsV g) ∧
      z = g ++ splitA c ((s.data.toList.take k).drop f) (s.data.toList.drop k) ∧ Below w.heap.size w wr) (fun _ _ i _ => s.size - (intOf i).toNat)
  case atStart => exact ⟨0, 0, [], Nat.zero_le _, Nat.le_refl _, rfl, rfl, Nat.le_refl _, World.ownsRow_nil _ _ _ _, by simpa using (unhide HZ).symm, Below.refl _ _⟩
  case round =>
    obtain ⟨k, f, g, hk, hf, rfl, rfl, hg, hown, hq, hb⟩ := hrel
    have HQ := hide hq
    have HB := hide hb
    have hsz := hb.size
    clear hq hb
    by_cases hlt : k < s.size
    · have HD := hide (drop_cons s k hlt)
      by_cases hc : s[k] = c
      · have hc' : ((s[k].toNat : Int) == (c.toNat : Int)) = true := by rw [hc]; simp
        have HC := hide hc
        clear hc
        go_wp2_with (at_builtin; refine wpList_append_own _ rfl _ _ 24 rfl w.heap.size 9 i0 (.string ByteArray.empty) 1 16 Tryz.underlying24 (unhide HI).1 (unhide HI).2.1 (unhide HI).2.2.1 (unhide HI).2.2.2 rfl (by decide) _ _ _ rfl (hown.alloc _) ⟨wr.heap.size, 0, none⟩ 1 1 [.string (s.extract f k)] rfl rfl (one_new _ _ _) (one_cell1 rfl) (by unfold maxLen; omega) (by omega) (by simp; omega) ?_; intro v' w1 hown' hgrow _)
        have hb' := grow_below (unhide HB) (by omega) hown hgrow
        clear hgrow hown
        go_wp2
        refine ⟨⟨k + 1, k + 1, g ++ [(s.data.toList.take k).drop f], by omega, by omega, by go_num, by go_num, by simp; omega, ?_, ?_, hb'⟩, by simp [intOf]; omega⟩
        · rw [strsV_snoc, strV, ← extract_eq]; simpa using hown'
        · rw [unhide HQ, unhide HD]; simp [splitA, unhide HC]
      · have hc' : ((s[k].toNat : Int) == (c.toNat : Int)) = false := by
          simp only [beq_eq_false_iff_ne, ne_eq]
          intro h; exact hc (UInt8.toNat_inj.1 (by omega))
        have HC := hide hc
        clear hc
        go_wp2
        refine ⟨⟨k + 1, f, g, by omega, by omega, by go_num, by go_num, hg, hown, ?_, unhide HB⟩, by simp [intOf]; omega⟩
        rw [unhide HQ, unhide HD, take_drop_snoc s f k hlt hf]; simp [splitA, unhide HC]
    · obtain rfl : k = s.size := by omega
      go_wp2_with (at_builtin; refine wpList_append_own _ rfl _ _ 24 rfl w.heap.size 9 i0 (.string ByteArray.empty) 1 16 Tryz.underlying24 (unhide HI).1 (unhide HI).2.1 (unhide HI).2.2.1 (unhide HI).2.2.2 rfl (by decide) _ _ _ rfl (hown.alloc _) ⟨wr.heap.size, 0, none⟩ 1 1 [.string (s.extract f s.size)] rfl rfl (one_new _ _ _) (one_cell1 rfl) (by unfold maxLen; omega) (by omega) (by simp; omega) ?_; intro v' w1 hown' hgrow _)
      have hb' := grow_below (unhide HB) (by omega) hown hgrow
      have hz := hide (show z = g ++ [(s.data.toList.take s.size).drop f] by
        have e : s.data.toList.drop s.size = [] := List.drop_of_length_le (by simp)
        rw [unhide HQ, e]; rfl)
      rw [extract_eq] at hown'
      have hfin := hide (Strs.ofOwn (l := g ++ [(s.data.toList.take s.size).drop f]) (by rw [strsV_snoc]; exact hown') (by simp))
      clear hgrow hown hown'
      go_wp2
      go_ret
      exact ⟨v', rfl, by rw [unhide hz]; exact unhide hfin, hb'⟩
end Go.Proofs.YtkbpocecbcaiiaaGreatDoor

/-
  THE WALK OVER railsref.stray.
-/
namespace Go.Proofs.YtkbpocecbcaiiaaGreatDoor
open Go.RowKit

/-- a railsref.Train, boxed behind a Plan. -/
def rtnBox (t : Tn) (vj : Value) : Obj := .cells #[.int .i64 t.start, vj] 177
theorem two_rtn {w wr : World} {o1 : Obj} {t : Tn} {vj : Value} (hb : Below (w.heap.size + 2) ((w.alloc o1).alloc (rtnBox t vj)) wr) :
    wr.cell? ⟨w.heap.size + 1, 0, none⟩ = some (.int .i64 t.start) ∧ wr.cell? ⟨w.heap.size + 1, 1, none⟩ = some vj := by
  have h := blk2 w o1 (rtnBox t vj)
  exact ⟨blk_cell hb (by omega) h 0, blk_cell hb (by omega) h 1⟩

set_option maxHeartbeats 1000000 in
theorem stray_any (v : Value) (L : Lay) (k : Nat) (w : World) (h : RPlan w v L) (hk : k < L.tns.length) (hp : L.Paths) :
    Calls Tryz.prog 117 #[v, .int .i64 k] w fun e w' => e = .returned (.bool (L.stray k)) ∧ Below w.heap.size w w' := by
  have HR := hide h
  obtain ⟨vh, vr, vt, rfl, hH, hRt, hT⟩ := h
  obtain ⟨aoh, caph, rfl, h1, h2, -⟩ := SlAt.open hH
  obtain ⟨aor, capr, rfl, r1, r2, r3⟩ := SlAt.open hRt
  obtain ⟨ao, cap, rfl, t1, t2, t3⟩ := SlAt.open hT
  obtain ⟨g, off, rfl, hg, cs, -, hC, hc⟩ := t3 k hk
  obtain ⟨vj, rfl, hJ⟩ := hC
  have hc0 := hc 0 (by omega)
  have hc1 := hc 1 (by omega)
  obtain ⟨aoj, capj, rfl, j1, j2, j3⟩ := SlAt.open hJ
  have HPS := hide hp
  have HTN := hide (tn_eq L k hk)
  clear hH hRt hT hc hJ hp
  unfold maxLen at h2 r2 t2 j2
  simp at hc0 hc1
  generalize hzz : L.stray k = z
  have HZ := hide hzz
  clear hzz
  generalize htk : L.tns[k] = tk at *
  have HTK := hide htk
  clear htk
  go_enter Tryz.func117, Tryz.ntmps117
  generalize hfl : L.flankedB tk.start = fl at *
  have HFL := hide hfl
  clear hfl
  have HZ0 := hide (show z = (decide (L.sw.length ≤ tk.start) || fl || (List.range k).any (fun i => (L.tn i).start == tk.start) || !L.joins tk.start tk.jny) by
    rw [← unhide HZ, Lay.stray, unhide HTN, unhide HFL])
  clear HZ
  go_wp2_with fail
  refine (flanked_any _ L tk.start _ ((unhide HR).below ?_)).mono ?_
  · exact two_below (o1 := planBox L (.slice aoh L.sw.length caph) (.slice aor L.rts.length capr) (.slice (some ⟨g, off, none⟩) L.tns.length cap)) (o2 := rtnBox tk (.slice aoj tk.jny.length capj)) (Below.refl _ _)
  rw [unhide HFL]
  rintro e w1 ⟨rfl, hb1⟩
  have hbA : Below (w.heap.size + 2) ((w.alloc (planBox L (.slice aoh L.sw.length caph) (.slice aor L.rts.length capr) (.slice (some ⟨g, off, none⟩) L.tns.length cap))).alloc (rtnBox tk (.slice aoj tk.jny.length capj))) w1 := hb1.mono (by simp)
  have HA := hide hbA
  obtain ⟨q0, q1, q2, q3, q4, q5⟩ := two_plan hbA
  obtain ⟨y0, y1⟩ := two_rtn hbA
  clear hb1 hbA hc0 hc1
  by_cases c1 : L.sw.length ≤ tk.start
  · have hz := hide (show z = true by rw [unhide HZ0]; simp [c1])
    go_wp2
    go_ret
    exact ⟨ret_bool (unhide hz).symm, two_below (unhide HA)⟩
  have hec : fl = true ∨ fl = false := by cases fl <;> simp
  rcases hec with rfl | rfl
  · have hz := hide (show z = true by rw [unhide HZ0]; simp)
    go_wp2
    go_ret
    exact ⟨ret_bool (unhide hz).symm, two_below (unhide HA)⟩
  have HZ1 := hide (show z = ((List.range k).any (fun i => (L.tn i).start == tk.start) || !L.joins tk.start tk.jny) by rw [unhide HZ0]; simp [c1])
  clear HZ0
  go_wp2
  go_loopw [7] (fun i wr => ∃ n : Nat, n ≤ k ∧ i = .int .i64 n ∧ (List.range n).any (fun i => (L.tn i).start == tk.start) = false ∧
      Below (w.heap.size + 2) ((w.alloc (planBox L (.slice aoh L.sw.length caph) (.slice aor L.rts.length capr) (.slice (some ⟨g, off, none⟩) L.tns.length cap))).alloc (rtnBox tk (.slice aoj tk.jny.length capj))) wr) (fun i _ => k - (intOf i).toNat)
  case atStart => exact ⟨0, Nat.zero_le _, rfl, rfl, unhide HA⟩
  case round =>
    clear q0 q1 q2 q3 q4 q5 y0 y1 HA
    obtain ⟨n, hn, rfl, hz, hb⟩ := hrel
    have HQ := hide hz
    have HB := hide hb
    obtain ⟨q0, q1, q2, q3, q4, q5⟩ := two_plan hb
    obtain ⟨y0, y1⟩ := two_rtn hb
    clear hz
    by_cases hlt : n < k
    · have hnL : n < L.tns.length := by omega
      have HAS := hide (any_range_succ (fun i => (L.tn i).start == tk.start) n)
      have HTI := hide (show (L.tn n).start = L.tns[n].start by rw [tn_eq L n hnL])
      obtain ⟨g', off', hao, hg', cs2, -, hC2, hd⟩ := t3 n hnL
      simp only [Option.some.injEq, Addr.mk.injEq, and_true] at hao
      obtain ⟨rfl, rfl⟩ := hao
      obtain ⟨vj2, rfl, -⟩ := hC2
      have hd0 := hd 0 (by omega)
      rw [← (two_below hb).cell (p := ⟨g, _, none⟩) hg] at hd0
      simp at hd0
      clear hd t3 hb r3 j3
      have hl1 : (0 : Int) ≤ n := by omega
      have hl2 : (n : Int) < L.tns.length := by omega
      generalize L.tns[n].start = sn at *
      by_cases ce : sn = tk.start
      · have hz := hide (show z = true by rw [unhide HZ1, any_range_true _ k n hlt (by simp [unhide HTI, ce]), Bool.true_or])
        have d : ((sn : Int) == (tk.start : Int)) = true := by simp; omega
        clear ce
        go_wp2_with fail
        go_quiet (fail)
        go_wp2
        go_ret
        exact ⟨ret_bool (unhide hz).symm, below_drewN (two_below (unhide HB)) _⟩
      · have hz := hide (show ((L.tn n).start == tk.start) = false by simp [unhide HTI, ce])
        have d : ((sn : Int) == (tk.start : Int)) = false := by simp; omega
        clear ce
        go_wp2_with fail
        go_quiet (fail)
        go_wp2
        exact ⟨⟨n + 1, by omega, by go_num, by rw [unhide HAS, unhide HQ, unhide hz]; rfl, below_drewN (unhide HB) _⟩, by simp [intOf]; omega⟩
    · have HZ2 := hide (show z = !L.joins tk.start tk.jny by
        obtain rfl : n = k := by omega
        rw [unhide HZ1, unhide HQ, Bool.false_or])
      clear HZ1 hb
      go_wp2
      go_loopw [8, 9] (fun a i wr => ∃ n s : Nat, n ≤ tk.jny.length ∧ i = .int .i64 n ∧ a = .int .i64 s ∧ L.joins tk.start tk.jny = L.joins s (tk.jny.drop n) ∧
          Below (w.heap.size + 2) ((w.alloc (planBox L (.slice aoh L.sw.length caph) (.slice aor L.rts.length capr) (.slice (some ⟨g, off, none⟩) L.tns.length cap))).alloc (rtnBox tk (.slice aoj tk.jny.length capj))) wr) (fun _ i _ => tk.jny.length - (intOf i).toNat)
      case atStart => exact ⟨0, tk.start, Nat.zero_le _, rfl, rfl, rfl, unhide HB⟩
      case round =>
      clear HQ HB q0 q1 q2 q3 q4 q5 y0 y1 hn hlt t3
      obtain ⟨n, s, hn, rfl, rfl, hz, hb⟩ := hrel
      have HQ := hide hz
      have HB := hide hb
      obtain ⟨q0, q1, q2, q3, q4, q5⟩ := two_plan hb
      obtain ⟨y0, y1⟩ := two_rtn hb
      have qs := two_size hb
      clear hz
      by_cases hlt : n < tk.jny.length
      · obtain ⟨gj, offj, hao, hgj, cs3, -, hC3, he⟩ := j3 n hlt
        subst hao
        unfold CInt at hC3
        subst hC3
        have he0 := he 0 (by omega)
        rw [← (two_below hb).cell (p := ⟨gj, _, none⟩) hgj] at he0
        simp at he0
        have HJ := hide (show L.joins s (tk.jny.drop n) = (decide (tk.jny[n] < L.rts.length) && (L.rt tk.jny[n]).foot == s && L.joins (L.endOf tk.jny[n]) (tk.jny.drop (n + 1))) by
          rw [List.drop_eq_getElem_cons hlt]; rfl)
        clear he j3
        generalize tk.jny[n] = r at *
        by_cases cr : r < L.rts.length
        · obtain ⟨gr, offr, hao, hgr, cs4, -, hC4, hf⟩ := r3 r cr
          subst hao
          obtain ⟨vp, vs, vf, vl, rfl, -, -, -, -⟩ := hC4
          have hf0 := hf 0 (by omega)
          rw [← (two_below hb).cell (p := ⟨gr, _, none⟩) hgr] at hf0
          simp at hf0
          rw [rt_eq L r cr] at HJ
          clear hf r3 hb
          generalize L.rts[r].foot = ft at *
          have d1 : decide ((L.rts.length : Int) ≤ (r : Int)) = false := by simp; omega
          have d2 : (0 : Int) ≤ r := by omega
          have d3 : (r : Int) < L.rts.length := by omega
          by_cases ce : ft = s
          · have d4 : ((ft : Int) != (s : Int)) = false := by simp; omega
            have hJ := hide (show L.joins tk.start tk.jny = L.joins (L.endOf r) (tk.jny.drop (n + 1)) by rw [unhide HQ, unhide HJ]; simp [cr, ce])
            clear ce
            go_wp2_with fail
            refine (End_any _ L r _ ((unhide HR).below (two_below (unhide HB))) cr (unhide HPS)).mono ?_
            rintro e w2 ⟨rfl, hb2⟩
            have hb5 := (unhide HB).trans (hb2.mono (B' := w.heap.size + 2) (by omega))
            clear hb2
            go_wp2
            exact ⟨⟨n + 1, L.endOf r, by omega, by go_num, rfl, unhide hJ, hb5⟩, by simp [intOf]; omega⟩
          · have d4 : ((ft : Int) != (s : Int)) = true := by simp; omega
            have hz := hide (show z = true by rw [unhide HZ2, unhide HQ, unhide HJ]; simp [ce])
            clear ce
            go_wp2
            go_ret
            exact ⟨ret_bool (unhide hz).symm, two_below (unhide HB)⟩
        · have hz := hide (show z = true by rw [unhide HZ2, unhide HQ, unhide HJ]; simp [cr])
          have d1 : decide ((L.rts.length : Int) ≤ (r : Int)) = true := by simp; omega
          clear r3 hb
          go_wp2
          go_ret
          exact ⟨ret_bool (unhide hz).symm, two_below (unhide HB)⟩
      · have hz := hide (show z = false by
          rw [unhide HZ2, unhide HQ, List.drop_of_length_le (by omega)]; rfl)
        clear r3 hb j3
        go_wp2
        go_ret
        exact ⟨ret_bool (unhide hz).symm, two_below (unhide HB)⟩
end Go.Proofs.YtkbpocecbcaiiaaGreatDoor

/-
  THE WALK OVER railsref.marks.
-/
namespace Go.Proofs.YtkbpocecbcaiiaaGreatDoor
open Go.RowKit

theorem Tryz.infoByte : (Tryz.prog.info? 5).map (fun i => (i.zero, i.size, i.bytes)) = some (some (.int .u8 0), 1, 1) := by kernel_rfl

theorem letter_isLet (x : UInt8) : letterB x.toNat = isLet x := by
  unfold letterB isLet
  congr 1 <;> rw [decide_eq_decide] <;> omega
theorem secs_step (acc : List (Nat × Nat)) (x : UInt8) (h : isLet x = false) : secs (markStep acc x) = secs acc := by
  unfold markStep secs
  rw [if_neg (by simp [h])]
  apply List.ext_getElem?
  intro i
  simp only [List.getElem?_map, List.getElem?_set]
  split
  · split
    · subst_vars; simp [List.getD_eq_getElem?_getD]
      rename_i hl; rw [List.getElem?_eq_getElem hl]; try rfl
    · subst_vars; rw [List.getElem?_eq_none (by omega)]; try rfl
  · rfl
theorem signs_step (acc : List (Nat × Nat)) (x : UInt8) (h : isLet x = false) : signs (markStep acc x) = (signs acc).set (acc.length - 1) x.toNat := by
  unfold markStep signs
  rw [if_neg (by simp [h]), List.map_set]
theorem len_step (acc : List (Nat × Nat)) (x : UInt8) : (markStep acc x).length ≤ acc.length + 1 ∧ (isLet x = true → (markStep acc x).length = acc.length + 1) ∧ (isLet x = false → (markStep acc x).length = acc.length) := by
  unfold markStep
  cases h : isLet x <;> simp
theorem secs_len (p : List (Nat × Nat)) : (secs p).length = p.length := by simp [secs]
theorem signs_len (p : List (Nat × Nat)) : (signs p).length = p.length := by simp [signs]

theorem own_ne {w : World} {b b' : Nat} {e e' : TypeId} {s s' : Nat} {v v' : Value} {n n' : Nat} {xs xs' : List Value} (h : w.ownsRow b e s v n xs) (h' : w.ownsRow b' e' s' v' n' xs') (he : e ≠ e') : v.ownBlock = none ∨ v.ownBlock ≠ v'.ownBlock := by
  rcases h.2 with ⟨rfl, -⟩ | ⟨g, cap, cur, rfl, -, hg, -⟩
  · exact .inl rfl
  · right
    rcases h'.2 with ⟨rfl, -⟩ | ⟨g', cap', cur', rfl, -, hg', -⟩
    · simp [Value.ownBlock]
    · simp only [Value.ownBlock, ne_eq, Option.some.injEq]
      intro hgg; subst hgg
      rw [hg] at hg'
      simp at hg'
      exact he hg'.2

set_option maxHeartbeats 1000000 in
theorem marks_any (s : ByteArray) (w : World) (hs : s.size ≤ 1000) :
    Calls Tryz.prog 198 #[.string s] w fun e w' => ∃ vp vs, e = .returned (.tuple #[vp, vs]) ∧ Ints w' vp (secs (marksF s.data.toList)) ∧ Byts w' vs (signs (marksF s.data.toList)) ∧ Below w.heap.size w w' := by
  obtain ⟨i0, hi0⟩ := info_parts Tryz.infoInt
  have HI := hide hi0
  obtain ⟨i1, hi1⟩ := info_parts Tryz.infoByte
  have HJ := hide hi1
  clear hi0 hi1
  generalize hzz : marksF s.data.toList = z
  have HZ := hide hzz
  clear hzz
  go_enter Tryz.func198, Tryz.ntmps198
  go_wp2
  go_loopw [4, 5, 6] (fun l m i wr => ∃ k : Nat, ∃ acc : List (Nat × Nat), k ≤ s.size ∧ i = .int .i64 k ∧ acc.length ≤ k ∧ wr.ownsRow w.heap.size 3 1 l acc.length (intsV (secs acc)) ∧
      wr.ownsRow w.heap.size 5 1 m acc.length (bytsV (signs acc)) ∧ z = (s.data.toList.drop k).foldl markStep acc ∧ Below w.heap.size w wr) (fun _ _ i _ => s.size - (intOf i).toNat)
  case atStart => exact ⟨0, [], Nat.zero_le _, rfl, Nat.le_refl _, World.ownsRow_nil _ _ _ _, World.ownsRow_nil _ _ _ _, (unhide HZ).symm, Below.refl _ _⟩
  case round =>
    obtain ⟨k, acc, hk, rfl, hac, hown, howm, hq, hb⟩ := hrel
    have HQ := hide hq
    have HB := hide hb
    have hsz := hb.size
    clear hq hb
    by_cases hlt : k < s.size
    · have HD := hide (drop_cons s k hlt)
      obtain ⟨c, hce⟩ : ∃ c, s[k].toNat = c := ⟨_, rfl⟩
      have hc256 : c < 256 := by rw [← hce]; exact s[k].toNat_lt
      have HL := hide (letter_isLet s[k])
      rw [hce] at HL
      have HCE := hide hce
      have hne := own_ne howm hown (by decide)
      have HNE := hide hne
      clear hne
      cases hl : isLet s[k] with
      | true =>
        have HLT := hide hl
        rw [hl] at HL
        have hcl : 97 ≤ c ∧ c ≤ 112 := by
          have := unhide HL
          unfold letterB at this
          simp at this; omega
        clear hl
        have hw1 : IntKind.u8.wrap ((c : Int) - 97) = (c : Int) - 97 := Go.IntWalk.u8_in _ (by omega)
        have tok1 : True := trivial
        go_wp2_with (first
          | (go_at_call 195; refine (letter_any _ _).mono ?_; rw [unhide HL]; rintro e w' ⟨rfl, hw⟩; have hw := hw.symm; subst hw)
          | (at_builtin; have _t := tok1; refine wpList_append_own _ rfl _ _ 50 rfl w.heap.size 3 i0 (.int .i64 0) 1 8 Tryz.underlying50 (unhide HI).1 (unhide HI).2.1 (unhide HI).2.2.1 (unhide HI).2.2.2 rfl (by decide) _ _ _ rfl (hown.alloc _) ⟨wr.heap.size, 0, none⟩ 1 1 [.int .i64 ((c : Int) - 97)] rfl rfl (one_new _ _ _) (one_cell1 rfl) (by unfold maxLen; omega) (by omega) (by simp; omega) ?_; intro v1 w1 hown1 hgrow1 _; clear tok1; have howm1 := (howm.alloc _).kept hgrow1 (unhide HNE); have hb1 := grow_below (unhide HB) hsz hown hgrow1; have hsz1 := hb1.size; have HB1 := hide hb1; clear hb1)
          | (at_builtin; refine wpList_append_own _ rfl _ _ 75 rfl w.heap.size 5 i1 (.int .u8 0) 1 1 Tryz.underlying75 (unhide HJ).1 (unhide HJ).2.1 (unhide HJ).2.2.1 (unhide HJ).2.2.2 rfl (by decide) _ _ _ rfl (howm1.alloc _) ⟨w1.heap.size, 0, none⟩ 1 1 [.int .u8 0] rfl rfl (one_new _ _ _) (one_cell1 rfl) (by unfold maxLen; omega) (by omega) (by simp; omega) ?_; intro v2 w2 howm2 hgrow2 _))
        have hown2 := (hown1.alloc _).kept hgrow2 (own_ne hown1 howm1 (by decide))
        have hb2 := grow_below (unhide HB1) hsz1 howm1 hgrow2
        have hcc : (c : Int) - 97 = ((c - 97 : Nat) : Int) := by omega
        have hst : markStep acc s[k] = acc ++ [(c - 97, 0)] := by rw [markStep, unhide HLT, if_pos rfl, unhide HCE]
        rw [hcc, ← intsV_snoc] at hown2
        rw [show (Value.int .u8 0) = Value.int .u8 ((0 : Nat) : Int) from rfl, ← bytsV_snoc] at howm2
        have hQ2 : z = (s.data.toList.drop (k + 1)).foldl markStep (acc ++ [(c - 97, 0)]) := by rw [unhide HQ, unhide HD, List.foldl_cons, hst]
        clear hgrow1 hgrow2 hown1 howm1 hown howm
        go_wp2
        exact ⟨⟨k + 1, acc ++ [(c - 97, 0)], by omega, by go_num, by simp; omega, by simpa [secs] using hown2, by simpa [signs] using howm2, hQ2, hb2⟩, by simp [intOf]; omega⟩
      | false =>
        have HLT := hide hl
        rw [hl] at HL
        clear hl
        have hst := hide (show z = (s.data.toList.drop (k + 1)).foldl markStep (markStep acc s[k]) by rw [unhide HQ, unhide HD, List.foldl_cons])
        have hlen := hide ((len_step acc s[k]).2.2 (unhide HLT))
        have hse := hide (secs_step acc s[k] (unhide HLT))
        have hsi := hide (signs_step acc s[k] (unhide HLT))
        by_cases h0 : acc.length = 0
        · have hm : u5 = .slice none 0 0 ∨ ∃ a cap, u5 = .slice (some a) 0 cap := by
            rcases howm.2 with ⟨h, -⟩ | ⟨g, cap, cur, h, -⟩
            · exact .inl h
            · exact .inr ⟨_, _, by rw [h, h0]⟩
          have HOW := hide (And.intro hown howm)
          clear hown howm
          rcases hm with rfl | ⟨a, cap, rfl⟩
          all_goals
            go_wp2_with (go_at_call 195; refine (letter_any _ _).mono ?_; rw [unhide HL]; rintro e w' ⟨rfl, hw⟩; have hw := hw.symm; subst hw)
            exact ⟨⟨k + 1, markStep acc s[k], by omega, by go_num, by rw [unhide hlen]; omega, by rw [unhide hlen, unhide hse]; exact (unhide HOW).1, by rw [unhide hlen, unhide hsi, List.set_eq_of_length_le (by rw [signs_len]; omega)]; exact (unhide HOW).2, unhide hst, unhide HB⟩, by simp [intOf]; omega⟩
        · obtain ⟨g, cap, hm⟩ : ∃ g cap, u5 = .slice (some ⟨g, 0, none⟩) acc.length cap := by
            rcases howm.2 with ⟨-, h⟩ | ⟨g, cap, cur, h, -⟩
            · exact absurd h h0
            · exact ⟨_, _, h⟩
          subst hm
          obtain ⟨n, hn⟩ : ∃ n, acc.length = n + 1 := ⟨acc.length - 1, by omega⟩
          have hfz := howm.frozenAt n
          have hcl := howm.cellAt n (by omega)
          have hst2 := howm.stored n (.int .u8 c)
          have hown2 := hown.kept hst2.2 (own_ne hown howm (by decide))
          have HOW := hide (And.intro hown2 hst2.1)
          have hbs := hide ((unhide HB).setCell (p := ⟨g, n, none⟩) ((howm.lt g rfl).1) (.int .u8 c))
          have hcl' : wr.cell? ⟨g, n, none⟩ = some (.int .u8 ((signs acc)[n]'(by rw [signs_len]; omega) : Nat)) := by
            rw [hcl, bytsV, List.getElem?_map, List.getElem?_eq_getElem (by rw [signs_len]; omega)]; rfl
          have hpos : (0 : Int) < (n : Int) + 1 := by omega
          have hacn : n + 1 ≤ k := by omega
          clear hown howm hcl hst2 hown2 h0 hac
          generalize (signs acc)[n]'_ = old at hcl'
          have HN := hide hn
          go_wp2_with (go_at_call 195; refine (letter_any _ _).mono ?_; rw [unhide HL]; rintro e w' ⟨rfl, hw⟩; have hw := hw.symm; subst hw)
          refine ⟨⟨k + 1, markStep acc s[k], by omega, by go_num, by rw [unhide hlen, unhide HN]; omega, by rw [unhide hlen, unhide hse]; exact (unhide HOW).1, ?_, unhide hst, unhide hbs⟩, by simp [intOf]; omega⟩
          have hm2 := (unhide HOW).2
          rw [unhide hlen, unhide hsi, unhide HN, Nat.add_sub_cancel, unhide HCE, bytsV, List.map_set]
          rw [unhide HN] at hm2
          exact hm2
    · obtain rfl : k = s.size := by omega
      have hz := hide (show z = acc by
        have e : s.data.toList.drop s.size = [] := List.drop_of_length_le (by simp)
        rw [unhide HQ, e]; rfl)
      have f1 := hide (Ints.ofOwn hown (secs_len acc).symm)
      have f2 := hide (Byts.ofOwn howm (signs_len acc).symm)
      clear hown howm
      go_wp2
      go_ret2
      exact ⟨u4, u5, rfl, by rw [unhide hz]; exact unhide f1, by rw [unhide hz]; exact unhide f2, unhide HB⟩
end Go.Proofs.YtkbpocecbcaiiaaGreatDoor

/-
  WHAT APPENDS AND STORES KEEP; append inside a region that draws its order.
-/
namespace Go.Proofs.YtkbpocecbcaiiaaGreatDoor
open Go.RowKit

theorem Keeps.alloc (e : TypeId) (w : World) (o : Obj) : Keeps e w (w.alloc o) := Keeps.below (below_alloc w o)
theorem Keeps.drew (e : TypeId) (w : World) : Keeps e w w.drew := fun _ _ _ _ => rfl

/-- an append to an owned row of the type e keeps all blocks of other types. -/
theorem append_keeps {B : Nat} {wr w1 : World} {o : Obj} {v : Value} {e e' : TypeId} {size n : Nat} {xs : List Value}
    (hown : wr.ownsRow B e size v n xs) (hg : (wr.alloc o).grownBy w1 v.ownBlock) (hne : e ≠ e') : Keeps e' wr w1 := by
  intro b cur fr hb
  have hlt : b < wr.heap.size := by
    rcases Nat.lt_or_ge b wr.heap.size with h | h
    · exact h
    · rw [Array.getElem?_eq_none h] at hb; cases hb
  have h1 : (wr.alloc o).heap[b]? = wr.heap[b]? := Below.heap_alloc _ _ _ hlt
  rw [← h1]
  refine hg.block b (by simp; omega) ?_
  intro hrow
  rcases hown.2 with ⟨rfl, -⟩ | ⟨g, cap, cur', rfl, -, hg', -⟩
  · cases hrow
  · simp only [Value.ownBlock, Option.some.injEq] at hrow
    subst hrow
    rw [hb] at hg'
    simp at hg'
    exact hne hg'.2.1.symm

theorem ownsRow_below {b : Nat} {w w' : World} {e : TypeId} {size n : Nat} {v : Value} {xs : List Value} (h : w.ownsRow b e size v n xs) (hb : Below w.heap.size w w') : w'.ownsRow b e size v n xs := by
  refine ⟨h.1, ?_⟩
  rcases h.2 with h2 | ⟨g, cap, cur, hv, hg, hh, r⟩
  · exact .inl h2
  · refine .inr ⟨g, cap, cur, hv, hg, ?_, r⟩
    rw [hb.block g ((h.lt g (by rw [hv]; rfl)).2)]; exact hh
theorem ownsRow_keep {b : Nat} {w w' : World} {e : TypeId} {size n : Nat} {v : Value} {xs : List Value} (h : w.ownsRow b e size v n xs) (hk : Keeps e w w') : w'.ownsRow b e size v n xs := by
  refine ⟨h.1, ?_⟩
  rcases h.2 with h2 | ⟨g, cap, cur, hv, hg, hh, r⟩
  · exact .inl h2
  · exact .inr ⟨g, cap, cur, hv, hg, (hk g cur (0, 0) hh).trans hh, r⟩

/-- 'append' to what the call owns, as one step of a region that draws its order. -/
theorem step_append_own {P : Program} {w : World} {ops : Array Oper} {o : Oper} {a : Act} {K : Act → World → Prop} {Q : Exit → Act → World → Prop} {E : Prop} (hgd : o.guard = none) (s x : Operand) (t : TypeId)
    (ho : o.op = .call { callee := .builtin .append, args := #[s, x], argTypes := #[t, t] })
    (base : Nat) (e : TypeId) (i : TypeInfo) (z : Value) (size bytes : Nat) (ht : P.underlying t = some (.slice e)) (hi : P.info? e = some i) (hz : i.zero = some z)
    (hsize : i.size = size) (hby : i.bytes = bytes) (hzs : z.cells.size = size) (hsz : 0 < size)
    (v : Value) (n : Nat) (xs : List Value) (hs : a.eval s = v) (hown : w.ownsRow base e size v n xs)
    (ad : Addr) (m c : Nat) (news : List Value) (hx : a.eval x = .slice (some ad) m c) (hl : news.length = m * size) (hnews : ∀ j u, news[j]? = some u → w.cell? (ad.add j) = some u) (h1 : ∀ u ∈ news, u.oneCell' = true)
    (h63 : n + m ≤ maxLen) (hbytes : (n + m) * bytes ≤ 140737488355328) (hbase : base ≤ w.heap.size)
    (h : ∀ v' w', w'.ownsRow base e size v' (n + m) (xs ++ news) → w.grownBy w' v.ownBlock → K (a.put o.dst v') w') :
    if Region.wanted o (yielded ops a.tmps) = true then Oper.wp P o a w K Q else E := by
  have hw : Region.wanted o (yielded ops a.tmps) = true := by simp [Region.wanted, hgd]
  rw [if_pos hw]
  exact wp_append_own w s x t ho base e i z size bytes ht hi hz hsize hby hzs hsz v n xs hs hown ad m c news hx hl hnews h1 h63 hbytes hbase (fun v' w' a b _ => h v' w' a b)

theorem one_new_drew (w : World) (x : Value) (t : TypeId) : ∀ (j : Nat) (u : Value), [x][j]? = some u → ((w.alloc (.cells #[x] t)).drew).cell? ((⟨w.heap.size, 0, none⟩ : Addr).add j) = some u := one_new w x t
theorem grown_drew {w w1 : World} {r : Option Nat} (h : w.drew.grownBy w1 r) : w.grownBy w1 r := ⟨h.os, h.tape, h.output, h.size, h.block⟩
theorem slice_of_own {w : World} {b : Nat} {e : TypeId} {size n : Nat} {v : Value} {xs : List Value} (h : w.ownsRow b e size v n xs) : ∃ ah ch, v = .slice ah n ch := by
  rcases h.2 with ⟨h, h0⟩ | ⟨g, cap, cur, h, -⟩
  · exact ⟨none, 0, by rw [h, h0]⟩
  · exact ⟨_, _, h⟩

theorem blk_setCell {w : World} {g j : Nat} {cur : Array Value} {e : TypeId} (u : Value) (h : w.heap[g]? = some (.cells cur e (0, 0))) : (w.setCell ⟨g, j, none⟩ u).heap[g]? = some (.cells (cur.setIfInBounds j u) e (0, 0)) :=
  heap_setCell_same w g j cur e u h
theorem blk_cell0 {w : World} {g : Nat} {cur : Array Value} {e : TypeId} (h : w.heap[g]? = some (.cells cur e (0, 0))) (j : Nat) : w.cell? ⟨g, j, none⟩ = cur[j]? := cell_of_block h j
theorem blk_free0 {w : World} {g : Nat} {cur : Array Value} {e : TypeId} (h : w.heap[g]? = some (.cells cur e (0, 0))) (j : Nat) : w.frozen? ⟨g, j, none⟩ = false := by
  simp [World.frozen?, h]
theorem blk_lt {w : World} {g : Nat} {o : Obj} (h : w.heap[g]? = some o) : g < w.heap.size := by
  rcases Nat.lt_or_ge g w.heap.size with h' | h'
  · exact h'
  · rw [Array.getElem?_eq_none h'] at h; cases h
/-- a boxed struct of six cells. -/
theorem six0 {w : World} {g : Nat} {c0 c1 c2 c3 c4 c5 : Value} {e : TypeId} (h : w.heap[g]? = some (.cells #[c0, c1, c2, c3, c4, c5] e (0, 0))) :
    (w.cell? ⟨g, 0, none⟩ = some c0 ∧ w.cell? ⟨g, 1, none⟩ = some c1 ∧ w.cell? ⟨g, 2, none⟩ = some c2 ∧ w.cell? ⟨g, 3, none⟩ = some c3 ∧ w.cell? ⟨g, 4, none⟩ = some c4 ∧ w.cell? ⟨g, 5, none⟩ = some c5) ∧
    (w.frozen? ⟨g, 0, none⟩ = false ∧ w.frozen? ⟨g, 1, none⟩ = false ∧ w.frozen? ⟨g, 2, none⟩ = false ∧ w.frozen? ⟨g, 3, none⟩ = false ∧ w.frozen? ⟨g, 4, none⟩ = false ∧ w.frozen? ⟨g, 5, none⟩ = false) ∧ g < w.heap.size :=
  ⟨⟨blk_cell0 h 0, blk_cell0 h 1, blk_cell0 h 2, blk_cell0 h 3, blk_cell0 h 4, blk_cell0 h 5⟩, ⟨blk_free0 h 0, blk_free0 h 1, blk_free0 h 2, blk_free0 h 3, blk_free0 h 4, blk_free0 h 5⟩, blk_lt h⟩

def All2 {α β : Type} (R : α → β → Prop) : List α → List β → Prop
  | [], [] => True
  | a :: l, b :: m => R a b ∧ All2 R l m
  | _, _ => False
theorem All2.mono {α β : Type} {R S : α → β → Prop} (h : ∀ a b, R a b → S a b) : ∀ {l : List α} {m : List β}, All2 R l m → All2 S l m
  | [], [], _ => trivial
  | _ :: _, _ :: _, ⟨h1, h2⟩ => ⟨h _ _ h1, All2.mono h h2⟩
theorem All2.snoc {α β : Type} {R : α → β → Prop} {a : α} {b : β} (h : R a b) : ∀ {l : List α} {m : List β}, All2 R l m → All2 R (l ++ [a]) (m ++ [b])
  | [], [], _ => ⟨h, trivial⟩
  | _ :: _, _ :: _, ⟨h1, h2⟩ => ⟨h1, All2.snoc h h2⟩
theorem All2.length {α β : Type} {R : α → β → Prop} : ∀ {l : List α} {m : List β}, All2 R l m → l.length = m.length
  | [], [], _ => rfl
  | _ :: _, _ :: _, ⟨_, h2⟩ => by simp [All2.length h2]
theorem All2.get {α β : Type} {R : α → β → Prop} : ∀ {l : List α} {m : List β}, All2 R l m → ∀ i (h : i < l.length) (h' : i < m.length), R l[i] m[i]
  | _ :: _, _ :: _, ⟨h1, h2⟩, i, h, h' => match i, h, h' with
    | 0, _, _ => h1
    | i + 1, h, h' => All2.get h2 i (by simpa using h) (by simpa using h')

theorem flatten_get (css : List (List Value)) (sz : Nat) (hl : ∀ c, c ∈ css → c.length = sz) : ∀ (i j : Nat) (hi : i < css.length), j < sz → css.flatten[i * sz + j]? = css[i][j]? := by
  induction css with
  | nil => intro i j hi; simp at hi
  | cons c css ih =>
    intro i j hi hj
    have hc : c.length = sz := hl c (List.mem_cons_self ..)
    cases i with
    | zero => simp only [Nat.zero_mul, Nat.zero_add, List.flatten_cons, List.getElem_cons_zero]; rw [List.getElem?_append_left (by omega)]
    | succ i =>
      have := ih (fun c hc => hl c (List.mem_cons_of_mem _ hc)) i j (by simpa using hi) hj
      rw [List.flatten_cons, List.getElem?_append_right (by rw [hc, Nat.succ_mul]; omega), hc]
      rw [show (i + 1) * sz + j - sz = i * sz + j by rw [Nat.succ_mul]; omega, this]; rfl

/-- what the call has gathered by append, elements of sz cells. -/
theorem SlAt.ofOwnN {α : Type} {e : TypeId} {sz : Nat} {C : World → α → List Value → Prop} {w : World} {base : Nat} {v : Value} {l : List α} {css : List (List Value)} {n : Nat}
    (h : w.ownsRow base e sz v n css.flatten) (hA : All2 (C w) l css) (hl : ∀ c, c ∈ css → c.length = sz) (hn : n = l.length) : SlAt e sz C w v l := by
  subst hn
  have hlen := hA.length
  obtain ⟨-, h⟩ := h
  rcases h with ⟨rfl, h0⟩ | ⟨g, cap, cur, rfl, -, hg, h1, h2, h3, h4⟩
  · have : l = [] := List.length_eq_zero_iff.1 h0
    subst this
    exact ⟨none, 0, rfl, Nat.le_refl _, Nat.zero_le _, .inl rfl⟩
  · refine ⟨some ⟨g, 0, none⟩, cap, rfl, h1, h2, .inr ⟨g, 0, cur, (0, 0), rfl, hg, fun i hi => ⟨css[i]'(by omega), hl _ (List.getElem_mem _), hA.get i hi (by omega), fun j hj => ?_⟩⟩⟩
    have hlt : i * sz + j < l.length * sz := by
      have : (i + 1) * sz ≤ l.length * sz := Nat.mul_le_mul_right _ hi
      rw [Nat.succ_mul] at this; omega
    have h5 : (cur.toList.take (l.length * sz))[i * sz + j]? = css.flatten[i * sz + j]? := by rw [h4]
    rw [List.getElem?_take_of_lt hlt, flatten_get css sz hl i j (by omega) hj] at h5
    simpa using h5

theorem cells_new (w : World) (cs : List Value) (t : TypeId) : ∀ (j : Nat) (u : Value), cs[j]? = some u → (w.alloc (.cells cs.toArray t)).cell? ((⟨w.heap.size, 0, none⟩ : Addr).add j) = some u := by
  intro j u hj
  have := cell_of_block (heap_alloc_new w (.cells cs.toArray t)) j
  have e : (⟨w.heap.size, 0, none⟩ : Addr).add j = ⟨w.heap.size, j, none⟩ := by by_cases h : j = 0 <;> simp [Addr.add, h]
  rw [e, this]; simpa using hj

theorem cells_new_at (w : World) (cs : List Value) (t : TypeId) (n : Nat) (hn : n = w.heap.size) : ∀ (j : Nat) (u : Value), cs[j]? = some u → (w.alloc (.cells cs.toArray t)).cell? ((⟨n, 0, none⟩ : Addr).add j) = some u := by
  subst hn; exact cells_new w cs t

/-- a boxed struct of two cells. -/
theorem duo0 {w : World} {g : Nat} {c0 c1 : Value} {e : TypeId} (h : w.heap[g]? = some (.cells #[c0, c1] e (0, 0))) :
    (w.cell? ⟨g, 0, none⟩ = some c0 ∧ w.cell? ⟨g, 1, none⟩ = some c1) ∧ (w.frozen? ⟨g, 0, none⟩ = false ∧ w.frozen? ⟨g, 1, none⟩ = false) ∧ g < w.heap.size :=
  ⟨⟨blk_cell0 h 0, blk_cell0 h 1⟩, ⟨blk_free0 h 0, blk_free0 h 1⟩, blk_lt h⟩

theorem store6 {W : World} {b : Nat} {t : TypeId} (hT : Typed W b t) (u0 u1 u2 u3 u4 u5 : Value) :
    (∀ e, t ≠ e → Keeps e W ((((((W.setCell ⟨b, 0, none⟩ u0).setCell ⟨b, 1, none⟩ u1).setCell ⟨b, 2, none⟩ u2).setCell ⟨b, 3, none⟩ u3).setCell ⟨b, 4, none⟩ u4).setCell ⟨b, 5, none⟩ u5)) ∧
    (∀ B, B ≤ b → Below B W ((((((W.setCell ⟨b, 0, none⟩ u0).setCell ⟨b, 1, none⟩ u1).setCell ⟨b, 2, none⟩ u2).setCell ⟨b, 3, none⟩ u3).setCell ⟨b, 4, none⟩ u4).setCell ⟨b, 5, none⟩ u5)) := by
  have h5 := store5 hT u0 u1 u2 u3 u4
  have hT5 := ((((hT.setCell ⟨b, 0, none⟩ u0).setCell ⟨b, 1, none⟩ u1).setCell ⟨b, 2, none⟩ u2).setCell ⟨b, 3, none⟩ u3).setCell ⟨b, 4, none⟩ u4
  exact ⟨fun e he => (h5.1 e he).trans (Keeps.setCell ⟨b, 5, none⟩ u5 hT5 he), fun B hB => (h5.2 B hB).setCell (p := ⟨b, 5, none⟩) hB u5⟩

end Go.Proofs.YtkbpocecbcaiiaaGreatDoor

/-
  THE WALK OVER railsref.route.
-/
namespace Go.Proofs.YtkbpocecbcaiiaaGreatDoor
open Go.RowKit

/-- what the table's reader makes of a route's text. -/
def routeF (l : List UInt8) : Rt :=
  ⟨(l.getD 0 0).toNat - 97, marksF ((splitA 33 [] (l.drop 2)).getD 0 []), marksF (((splitA 33 [] (l.drop 2)).drop 1).getD 0 [])⟩

theorem splitA_ne (c : UInt8) (pre l : List UInt8) : splitA c pre l ≠ [] := by
  induction l generalizing pre with
  | nil => simp [splitA]
  | cons x l ih => unfold splitA; split <;> simp [ih]
theorem splitA_part (c : UInt8) (pre l : List UInt8) : ∀ p, p ∈ splitA c pre l → p.length ≤ pre.length + l.length := by
  induction l generalizing pre with
  | nil => intro p hp; simp [splitA] at hp; subst hp; simp
  | cons x l ih =>
    intro p hp
    unfold splitA at hp
    split at hp
    · rcases List.mem_cons.1 hp with h | h
      · subst h; simp
      · have := ih [] p h; simp at this ⊢; omega
    · have := ih _ p hp; simp at this ⊢; omega

set_option maxHeartbeats 1000000 in
theorem route_any (s : ByteArray) (w : World) (h2 : 2 ≤ s.size) (hs : s.size ≤ 1000) (h97 : 97 ≤ (s.data.toList.getD 0 0).toNat) :
    Calls Tryz.prog 167 #[.string s] w fun e w' => ∃ vp vs vf vl, e = .returned (.agg #[.int .i64 (routeF s.data.toList).foot, vp, vs, vf, vl]) ∧ CRRt w' (routeF s.data.toList) [.int .i64 (routeF s.data.toList).foot, vp, vs, vf, vl] ∧ Below w.heap.size w w' := by
  have HC0 := hide (show s[0] = s.data.toList.getD 0 0 by rw [List.getD_eq_getElem?_getD, List.getElem?_eq_getElem (by simp; omega)]; rfl)
  obtain ⟨c, hce⟩ : ∃ c, s[0].toNat = c := ⟨_, rfl⟩
  have hc256 : c < 256 := by rw [← hce]; exact s[0].toNat_lt
  rw [← unhide HC0, hce] at h97
  have HFT := hide (show (routeF s.data.toList).foot = c - 97 by rw [routeF, ← unhide HC0, hce])
  have HE := hide (show (s.extract 2 s.size).data.toList = s.data.toList.drop 2 by
    rw [extract_eq, List.take_of_length_le (by simp)])
  have hes : (s.extract 2 s.size).size ≤ 1000 := by
    have := congrArg List.length (unhide HE)
    simp at this
    show (s.extract 2 s.size).data.size ≤ 1000
    simp; omega
  obtain ⟨P, hP⟩ : ∃ P, P = splitA 33 [] (s.data.toList.drop 2) := ⟨_, rfl⟩
  have HP := hide hP
  have hPl : ∀ p, p ∈ P → p.length ≤ 1000 := by
    intro p hp; rw [hP] at hp
    have := splitA_part _ _ _ p hp
    simp at this; omega
  have hP0 : 0 < P.length := by rw [hP]; exact List.length_pos_iff.2 (splitA_ne _ _ _)
  have HPP := hide (show (routeF s.data.toList).path = marksF (P[0]'hP0) by
    rw [routeF, ← hP]
    show marksF (P.getD 0 []) = _
    rw [List.getD_eq_getElem?_getD, List.getElem?_eq_getElem hP0]; rfl)
  have HFF := hide (show (routeF s.data.toList).flank = marksF ((P.drop 1).getD 0 []) by rw [routeF, ← hP])
  clear hP
  generalize routeF s.data.toList = R at *
  go_enter Tryz.func167, Tryz.ntmps167
  go_wp2_with fail
  refine (split_any _ 33 _ hes).mono ?_
  rw [unhide HE, ← unhide HP]
  rintro e w1 ⟨v1, rfl, hS1, hb1⟩
  obtain ⟨ao, cap, rfl, b1, b2, b3⟩ := SlAt.open hS1
  obtain ⟨g, off, rfl, hg, cs, -, hC, hc⟩ := b3 0 hP0
  unfold CStr at hC
  subst hC
  have hc0 := hc 0 (by omega)
  simp [strV] at hc0
  have HB1 := hide hb1
  have hz1 := hb1.size
  have HS1 := hide hS1
  clear hb1 hc hS1
  unfold maxLen at b2
  have hml : (⟨(P[0]'hP0).toArray⟩ : ByteArray).size ≤ 1000 := by
    have := hPl _ (List.getElem_mem hP0)
    show (P[0]'hP0).toArray.size ≤ 1000
    simpa using this
  have HM0 := hide (marks_any ⟨(P[0]'hP0).toArray⟩ w1 hml)
  simp only at HM0
  rw [← unhide HPP] at HM0
  go_wp2_with fail
  refine (unhide HM0).mono ?_
  rintro e w2 ⟨vp, vs, rfl, hI2, hY2, hb2⟩
  have HI2 := hide hI2
  have HY2 := hide hY2
  obtain ⟨aop, capp, rfl, -, -, -⟩ := SlAt.open hI2
  obtain ⟨aos, caps, rfl, -, -, -⟩ := SlAt.open hY2
  have hz2 := hb2.size
  have HB2 := hide hb2
  have hft : (c : Int) - 97 = (R.foot : Int) := by rw [unhide HFT]; omega
  have HR := hide hft
  have hbR : Below (w.heap.size + 1) (w.alloc (.cells #[.int .i64 0, .slice none 0 0, .slice none 0 0, .slice none 0 0, .slice none 0 0] 188)) w2 :=
    ((unhide HB1).mono (by simp)).trans (hb2.mono (by simp at hz1; omega))
  have HBR := hide hbR
  obtain ⟨⟨z0, z1, z2, z3, z4⟩, ⟨x0, x1, x2, x3, x4⟩, qs⟩ := five hbR
  clear hb2 hI2 hY2 hc0 hft hbR hz1
  by_cases hp1 : 1 < P.length
  · obtain ⟨g', off', hao, hg', cs2, -, hC2, hd⟩ := b3 1 hp1
    simp only [Option.some.injEq, Addr.mk.injEq, and_true] at hao
    obtain ⟨rfl, rfl⟩ := hao
    unfold CStr at hC2
    subst hC2
    have hd0 := hd 0 (by omega)
    rw [← (unhide HB2).cell (p := ⟨g, _, none⟩) hg] at hd0
    simp [strV] at hd0
    have hgw2 : g < w2.heap.size := by omega
    have hp1' : (1 : Int) < P.length := by omega
    have hml1 : (⟨(P[1]'hp1).toArray⟩ : ByteArray).size ≤ 1000 := by
      have := hPl _ (List.getElem_mem hp1)
      show (P[1]'hp1).toArray.size ≤ 1000
      simpa using this
    have HM1 := hide (fun w => marks_any ⟨(P[1]'hp1).toArray⟩ w hml1)
    simp only at HM1
    rw [show marksF (P[1]'hp1) = R.flank by rw [unhide HFF, List.getD_eq_getElem?_getD, List.getElem?_drop, List.getElem?_eq_getElem hp1]; rfl] at HM1
    clear hd b3
    go_wp2_with fail
    refine (unhide HM1 _).mono ?_
    rintro e w4 ⟨vf, vl, rfl, hI4, hY4, hb4⟩
    have HI4 := hide hI4
    have HY4 := hide hY4
    obtain ⟨aof, capf, rfl, -, -, -⟩ := SlAt.open hI4
    obtain ⟨aol, capl, rfl, -, -, -⟩ := SlAt.open hY4
    have hbX : Below (w2.heap.size + 1) (w2.alloc (.cells #[.int .i64 ((c : Int) - 97), .slice aop (secs R.path).length capp, .slice aos (signs R.path).length caps, .slice none 0 0, .slice none 0 0] 188)) w4 := hb4.mono (by simp)
    have hbY : Below (w.heap.size + 1) (w.alloc (.cells #[.int .i64 0, .slice none 0 0, .slice none 0 0, .slice none 0 0, .slice none 0 0] 188)) w4 := (unhide HBR).trans ((box_below hbX).mono (by omega))
    clear z0 z1 z2 z3 z4 x0 x1 x2 x3 x4 hd0 hI4 hY4 hb4
    obtain ⟨⟨z0, z1, z2, z3, z4⟩, ⟨x0, x1, x2, x3, x4⟩, qs4⟩ := five hbY
    obtain ⟨⟨y0, y1, y2, y3, y4⟩, ⟨f0, f1, f2, f3, f4⟩, qs5⟩ := five hbX
    have hne : w.heap.size ≠ w2.heap.size := by omega
    have hne' : w2.heap.size ≠ w.heap.size := by omega
    have HBX := hide hbX
    have HBY := hide hbY
    clear hbX hbY
    go_wp2
    have hT2 : Typed w4 w2.heap.size 188 := (Typed.new w2 _ _).below (unhide HBX) (by omega)
    have hT1 : Typed w4 w.heap.size 188 := (Typed.new w _ _).below (unhide HBY) (by omega)
    have hT3 := (hT1.setCell ⟨w2.heap.size, 3, none⟩ (.slice aof (secs R.flank).length capf)).setCell ⟨w2.heap.size, 4, none⟩ (.slice aol (signs R.flank).length capl)
    have hS := store5 hT3 (.int .i64 R.foot) (.slice aop (secs R.path).length capp) (.slice aos (signs R.path).length caps) (.slice aof (secs R.flank).length capf) (.slice aol (signs R.flank).length capl)
    have kS := fun e (he : 188 ≠ e) => ((Keeps.setCell (e := e) ⟨w2.heap.size, 3, none⟩ (.slice aof (secs R.flank).length capf) hT2 he).trans (Keeps.setCell ⟨w2.heap.size, 4, none⟩ (.slice aol (signs R.flank).length capl) (hT2.setCell ⟨w2.heap.size, 3, none⟩ (.slice aof (secs R.flank).length capf)) he)).trans (hS.1 e he)
    have hb9 := ((((box_below (unhide HBY)).setCell (p := ⟨w2.heap.size, 3, none⟩) (by show w.heap.size ≤ w2.heap.size; omega) (.slice aof (secs R.flank).length capf)).setCell (p := ⟨w2.heap.size, 4, none⟩) (by show w.heap.size ≤ w2.heap.size; omega) (.slice aol (signs R.flank).length capl)).trans (hS.2 _ (Nat.le_refl _)))
    have kX := fun e => Keeps.below (e := e) (box_below (unhide HBX))
    rw [unhide HR]
    refine bodyPost_ret (v := .agg #[.int .i64 R.foot, .slice aop (secs R.path).length capp, .slice aos (signs R.path).length caps, .slice aof (secs R.flank).length capf, .slice aol (signs R.flank).length capl]) (by simp [results, Tryz.results167, go_sem, z0, z1, z2, z3, z4]) rfl ?_
    refine ⟨_, _, _, _, rfl, ⟨_, _, _, _, rfl, ((unhide HI2).keep (kX _)).keep (kS _ (by decide)), ((unhide HY2).keep (kX _)).keep (kS _ (by decide)), (unhide HI4).keep (kS _ (by decide)), (unhide HY4).keep (kS _ (by decide))⟩, hb9⟩
  · have hp1' : ¬ (1 : Int) < P.length := by omega
    have hfl : R.flank = [] := by
      rw [unhide HFF, List.getD_eq_getElem?_getD, List.getElem?_drop, List.getElem?_eq_none (by omega)]; rfl
    have HFL := hide hfl
    clear b3 hfl
    go_wp2
    have hT : Typed w2 w.heap.size 188 := (Typed.new w _ _).below (unhide HBR) (by omega)
    have hS := store5 hT (.int .i64 R.foot) (.slice aop (secs R.path).length capp) (.slice aos (signs R.path).length caps) (.slice none 0 0) (.slice none 0 0)
    have k3 := fun o => (hS.1 3 (by decide)).trans (Keeps.below (below_alloc _ o))
    have k5 := fun o => (hS.1 5 (by decide)).trans (Keeps.below (below_alloc _ o))
    have hb9 := fun o => (((box_below (unhide HBR)).trans (hS.2 _ (Nat.le_refl _))).alloc (B := w.heap.size) (by simp [World.setCell]; omega) o)
    rw [unhide HR]
    refine bodyPost_ret (v := .agg #[.int .i64 R.foot, .slice aop (secs R.path).length capp, .slice aos (signs R.path).length caps, .slice none 0 0, .slice none 0 0]) (by simp [results, Tryz.results167, go_sem, z0, z1, z2, z3, z4, qs]) rfl ?_
    refine ⟨_, _, _, _, rfl, ⟨_, _, _, _, rfl, (unhide HI2).keep (k3 _), (unhide HY2).keep (k5 _), ?_, ?_⟩, hb9 _⟩
    · rw [unhide HFL]; exact SlAt.nil _ _ _ _
    · rw [unhide HFL]; exact SlAt.nil _ _ _ _
end Go.Proofs.YtkbpocecbcaiiaaGreatDoor
