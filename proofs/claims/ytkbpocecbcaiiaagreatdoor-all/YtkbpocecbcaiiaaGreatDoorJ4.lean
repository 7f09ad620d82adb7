import Derived.Test.YtkbpocecbcaiiaaGreatDoorJ3
namespace Go.Proofs.YtkbpocecbcaiiaaGreatDoor
open Go.RowKit
theorem ar_true {f : Nat -> Bool} {n : Nat} (h : ∀ j, j < n -> f j = true) : (List.range n).all f = true := by
 rw [List.all_eq_true]; intro j hj; exact h j (List.mem_range.1 hj)
theorem z2c {f : Nat -> Bool} {n k : Nat} (hk : k < n) (h : f k = false) : (List.range n).all f = false := by
 rw [List.all_eq_false]; exact ⟨k, List.mem_range.2 hk, by rw [h]; simp⟩
def RBx.rightB (C : RBx) (f : Fr) (r s : Nat) : Bool := C.L.wantsF r s == 0 || f.rep.getD s 0 == C.L.wantsF r s
def RBx.right (C : RBx) (f : Fr) (r : Nat) : Bool := (List.range C.L.sw.length).all (C.rightB f r)
set_option maxHeartbeats 1000000 in
theorem rright_any (g : Nat) (C : RBx) (vfr : Value) (fr : Fr) (r : Nat) (w : World) (h : RBoxAt w g C) (hfr : FrAt w vfr fr) (hr : r < C.L.rts.length) (hs : C.L.sw.length <= 1000) (hfl : fr.rep.length = C.L.sw.length) :
  Calls Tryz.prog 145 #[.pointer (some ⟨g, 0, none⟩), .int .i64 r, vfr] w fun e w' => e = .returned (.bool (C.right fr r)) /\ Below w.heap.size w w' := by
 have HW := zh (fun (s : Nat) (wz : World) (hz : Below w.heap.size w wz) => z35 g C r s wz (h.below hz) hr)
 obtain ⟨vh, vr, vt, vl, vw, vf, vd, va, vq, hB, hH, -⟩ := h
 obtain ⟨vo, vp, rfl, hO, hP⟩ := hfr
 obtain ⟨ah, ch, rfl, -⟩ := SlAt.open hH
 obtain ⟨ao, co, rfl, -⟩ := SlAt.open hO
 obtain ⟨ap, cp, rfl, -, hm, p3⟩ := SlAt.open hP
 obtain ⟨⟨q3, -⟩, -, qg⟩ := box12 hB
 have HK := zh (show ∀ k (h : k < fr.rep.length), C.rightB fr r k = (C.L.wantsF r k == 0 || fr.rep[k] == C.L.wantsF r k) by
  intro k h
  unfold RBx.rightB
  rw [z0b _ _ _ h])
 unfold RBx.right
 generalize C.rightB fr r = f at *
 generalize fr.rep = re at *
 generalize C.L.sw.length = n at *
 unfold maxLen at hm
 obtain ⟨Z, hZ⟩ : ∃ Z, Z = (List.range n).all f := ⟨_, rfl⟩
 rw [<- hZ]
 have HZ2 := zh hZ
 have HFL := zh hfl
 clear hH hO hP hB hZ hfl
 go_enter Tryz.func145, Tryz.ntmps145
 go_wp2
 go_loopw [7] (fun i wr => ∃ k : Nat, k <= n /\ i = .int .i64 k /\ (∀ j, j < k -> f j = true) /\ Below (w.heap.size + 1) (w.alloc (.cells #[.slice ao fr.occ.length co, .slice ap re.length cp, .string fr.cmds] 163)) wr) (fun i _ => n - (intOf i).toNat)
 case atStart => exact ⟨0, Nat.zero_le _, rfl, fun j h => by omega, Below.refl _ _⟩
 case round =>
  obtain ⟨k, hk, rfl, hno, hb⟩ := hrel
  have HNO := zh hno
  have HB := zh hb
  have hbw := z05 hb
  have HBW := zh hbw
  obtain ⟨z0, z1, z2, qz⟩ := box3 hb
  rw [<- hbw.cell (p := ⟨g, _, none⟩) qg] at q3
  clear hno
  by_cases hlt : k < n
  ·have hkf : k < re.length := by have := uh HFL; omega
   obtain ⟨gf, of, haf, hgf, cs, -, hC, hc⟩ := p3 k hkf
   subst haf
   unfold CByte at hC
   subst hC
   have c0 := hc 0 (by omega)
   simp at c0
   have HF := zh (uh HK k hkf)
   have e1 : (k : Int) < n := by omega
   have e2 : (k : Int) < re.length := by omega
   have HNN := zh (show f k = true -> ∀ j, j < k + 1 -> f j = true by
    intro h j hj
    by_cases hj' : j < k
    ·exact uh HNO j hj'
    ·obtain rfl : j = k := by omega
     exact h)
   clear hc p3 hb hbw
   go_wp2_with fail
   refine (uh HW k wr (uh HBW)).mono ?_
   rintro e w1 ⟨rfl, hb1⟩
   have hb2 := (uh HB).trans (hb1.mono (B' := w.heap.size + 1) (by omega))
   have HB2 := zh hb2
   clear z0 z1 z2 q3
   obtain ⟨z0, z1, z2, qz2⟩ := box3 hb2
   rw [<- (z05 hb2).cell (p := ⟨gf, _, none⟩) hgf] at c0
   clear hb1 hb2
   generalize C.L.wantsF r k = x at *
   generalize re[k] = b at *
   by_cases hx : x = 0
   ·have b1 : ((x : Int) != 0) = false := by simp [hx]
    go_wp2
    exact ⟨⟨k + 1, by omega, by go_num, uh HNN (by rw [uh HF]; simp [hx]), uh HB2⟩, by simp [intOf]; omega⟩
   ·have b1 : ((x : Int) != 0) = true := by simp; omega
    by_cases hbx : b = x
    ·have b2 : ((b : Int) != x) = false := by simp [hbx]
     go_wp2
     exact ⟨⟨k + 1, by omega, by go_num, uh HNN (by rw [uh HF]; simp [hbx]), uh HB2⟩, by simp [intOf]; omega⟩
    ·have b2 : ((b : Int) != x) = true := by simp; omega
     have HZ3 := zh (show Z = false by rw [uh HZ2]; exact z2c hlt (by rw [uh HF]; simp [hx, hbx]))
     go_wp2
     go_ret
     exact ⟨z04 (uh HZ3).symm, z05 (uh HB2)⟩
  ·obtain rfl : k = n := by omega
   have HZ3 := zh (show Z = true by rw [uh HZ2]; exact ar_true (uh HNO))
   clear p3 hb hbw
   go_wp2
   go_ret
   exact ⟨z04 (uh HZ3).symm, uh HBW⟩
def RBx.takenB (C : RBx) (f : Fr) (s : Nat) : Bool := (C.lockedBy s).isSome || f.occ.getD s false
def RBx.freeB (C : RBx) (f : Fr) (r s : Nat) : Bool :=
 !(has (C.L.rt r).path s && C.takenB f s) && !(C.L.wantsF r s != 0 && (C.failed.getD s false || (C.wanted.getD s 0 != C.L.wantsF r s && (C.heldB s || C.takenB f s))))
def RBx.free (C : RBx) (f : Fr) (r : Nat) : Bool := (List.range C.L.sw.length).all (C.freeB f r)
set_option maxRecDepth 100000 in
set_option maxHeartbeats 4000000 in
theorem rfree_any (g : Nat) (C : RBx) (vfr : Value) (fr : Fr) (r : Nat) (w : World) (h : RBoxAt w g C) (hfr : FrAt w vfr fr) (hr : r < C.L.rts.length) (hs : C.L.sw.length <= 1000)
  (hol : fr.occ.length = C.L.sw.length) (hfl : C.failed.length = C.L.sw.length) (hwl : C.wanted.length = C.L.sw.length)
  (hl : C.lines.length <= C.L.rts.length) (hr1 : C.L.rts.length <= 1000) (hgo : ∀ x, x ∈ C.lines -> x.gone <= 1000) :
  Calls Tryz.prog 183 #[.pointer (some ⟨g, 0, none⟩), .int .i64 r, vfr] w fun e w' => e = .returned (.bool (C.free fr r)) /\ Below w.heap.size w w' := by
 have HW := zh (fun (s : Nat) (wz : World) (hz : Below w.heap.size w wz) => z35 g C r s wz (h.below hz) hr)
 have HLK := zh (fun (s : Nat) (wz : World) (hz : Below w.heap.size w wz) => rlocked_any g C s wz (h.below hz) hl hr1 hgo)
 have HHD := zh (fun (s : Nat) (wz : World) (hz : Below w.heap.size w wz) => rheld_any g C s wz (h.below hz) hl hr1 hgo)
 obtain ⟨vh, vr, vt, vl, vw, vf, vd, va, vq, hB, hH, hR, -, -, hWa, hF, -⟩ := h
 obtain ⟨vo, vp, rfl, hO, hP⟩ := hfr
 obtain ⟨ah, ch, rfl, -⟩ := SlAt.open hH
 obtain ⟨ar, cr, rfl, -, hmr, r3⟩ := SlAt.open hR
 obtain ⟨ao, co, rfl, -, hmo, o3⟩ := SlAt.open hO
 obtain ⟨ap, cp, rfl, -⟩ := SlAt.open hP
 obtain ⟨aw, cw, rfl, -, hmw, w3⟩ := SlAt.open hWa
 obtain ⟨af, cf, rfl, -, hmf, f3⟩ := SlAt.open hF
 obtain ⟨⟨q3, q4, -, -, q7, q8, -⟩, -, qg⟩ := box12 hB
 obtain ⟨gr, or_, rfl, hgr, csr, -, hCr, hcr⟩ := r3 r hr
 obtain ⟨vpp, vs, vfl, vg, rfl, hPa, -⟩ := hCr
 have d1 := hcr 1 (by omega)
 simp at d1
 have HPa := zh hPa
 have HT := zh (fun s => z3o C.L.rts[r].path s)
 obtain ⟨app, cpp, rfl, -⟩ := SlAt.open hPa
 have HK := zh (show ∀ k (h1 : k < fr.occ.length) (h2 : k < C.failed.length) (h3 : k < C.wanted.length), C.freeB fr r k = (!(has C.L.rts[r].path k && ((C.lockedBy k).isSome || fr.occ[k])) && !(C.L.wantsF r k != 0 && (C.failed[k] || (C.wanted[k] != C.L.wantsF r k && (C.heldB k || ((C.lockedBy k).isSome || fr.occ[k])))))) by
  intro k h1 h2 h3
  unfold RBx.freeB RBx.takenB
  rw [z0b _ _ _ h1, z0b _ _ _ h2, z0b _ _ _ h3, rt_eq C.L r hr])
 unfold RBx.free
 generalize C.freeB fr r = f at *
 generalize C.lockedBy = lk at *
 generalize C.heldB = hd at *
 generalize hwq : C.L.wantsF r = wq at *
 clear hwq
 generalize C.L.rts[r].path = pth at *
 generalize fr.occ = oc at *
 generalize C.failed = fa at *
 generalize C.wanted = wa at *
 generalize C.L.sw.length = n at *
 unfold maxLen at hmr hmo hmw hmf
 obtain ⟨Z, hZ⟩ : ∃ Z, Z = (List.range n).all f := ⟨_, rfl⟩
 rw [<- hZ]
 have HZ2 := zh hZ
 have e0 : (r : Int) < C.L.rts.length := by omega
 have HLE := zh (And.intro hol (And.intro hfl hwl))
 clear hH hR hO hP hWa hF hB hZ hPa hcr r3 hgo hol hfl hwl
 generalize C.L.rts.length = nr at *
 go_enter Tryz.func183, Tryz.ntmps183
 go_wp2
 go_loopw [7] (fun i wr => ∃ k : Nat, k <= n /\ i = .int .i64 k /\ (∀ j, j < k -> f j = true) /\ Below (w.heap.size + 1) (w.alloc (.cells #[.slice ao oc.length co, .slice ap fr.rep.length cp, .string fr.cmds] 163)) wr) (fun i _ => n - (intOf i).toNat)
 case atStart => exact ⟨0, Nat.zero_le _, rfl, fun j h => by omega, Below.refl _ _⟩
 case round =>
  obtain ⟨k, hk, rfl, hno, hb⟩ := hrel
  have HNO := zh hno
  have HB := zh hb
  have hbw := z05 hb
  have HBW := zh hbw
  obtain ⟨z0, z1, z2, qz⟩ := box3 hb
  rw [<- hbw.cell (p := ⟨g, _, none⟩) qg] at q3
  clear hno
  by_cases hlt : k < n
  ·have hko : k < oc.length := by have := (uh HLE).1; omega
   have hkf : k < fa.length := by have := (uh HLE).2.1; omega
   have hkw : k < wa.length := by have := (uh HLE).2.2; omega
   obtain ⟨go, oo, hao, hgo, cso, -, hCo, hco⟩ := o3 k hko
   obtain ⟨gw, ow, haw, hgw, csw, -, hCw, hcw⟩ := w3 k hkw
   obtain ⟨gf, of, haf, hgf, csf, -, hCf, hcf⟩ := f3 k hkf
   subst hao haw haf
   unfold CBool at hCo hCf
   unfold CByte at hCw
   subst hCo hCw hCf
   have o0 := hco 0 (by omega)
   have w0 := hcw 0 (by omega)
   have f0 := hcf 0 (by omega)
   simp at o0 w0 f0
   have HF := zh (uh HK k hko hkf hkw)
   have e1 : (k : Int) < n := by omega
   have e2 : (k : Int) < oc.length := by omega
   have e3 : (k : Int) < fa.length := by omega
   have e4 : (k : Int) < wa.length := by omega
   have HNN := zh (show f k = true -> ∀ j, j < k + 1 -> f j = true by
    intro h j hj
    by_cases hj' : j < k
    ·exact uh HNO j hj'
    ·obtain rfl : j = k := by omega
     exact h)
   have HTK := zh (uh HT k)
   have HTM := zh (fun (wz : World) (hz : Below w.heap.size w wz) => z0m _ _ (k : Int) wz ((uh HPa).keep (Keeps.below hz)))
   clear hco hcw hcf o3 w3 f3 hb
   rw [<- hbw.cell (p := ⟨go, _, none⟩) hgo] at o0
   rw [<- hbw.cell (p := ⟨gr, _, none⟩) hgr] at d1
   rw [<- hbw.cell (p := ⟨g, _, none⟩) qg] at q4
   clear hbw
   go_wp2_with fail
   refine (uh HLK k wr (uh HBW)).mono ?_
   rintro e w1 ⟨rfl, rfl⟩
   obtain ⟨lo, hlo⟩ : ∃ lo, lo = (lk k).isSome := ⟨_, rfl⟩
   have hli : decide ((0 : Int) <= optI (lk k)) = lo := by rw [hlo]; cases lk k <;> simp [optI]
   obtain ⟨hs', hhs⟩ : ∃ b, decide (0 < z1b (secs pth) (k : Int)) = b := ⟨_, rfl⟩
   rw [<- hlo, <- uh HTK, hhs] at HF
   have HHK := zh (uh HHD k)
   have HWK := zh (uh HW k)
   clear hlo HTK HHD HW HLK HT
   generalize optI (lk k) = li at *
   generalize z1b (secs pth) (k : Int) = tz at *
   generalize oc[k] = oo1 at *
   generalize fa[k] = fa1 at *
   generalize wa[k] = wa1 at *
   generalize hd k = hd1 at *
   generalize wq k = x at *
   cases lo <;> cases oo1 <;> cases hs'
   all_goals
    go_wp2_with (go_at_call 155; refine (uh HTM _ (uh HBW)).mono ?_; rintro e w' ⟨rfl, rfl⟩)
   all_goals
    first
     | (have HZ3 := zh (show Z = false by rw [uh HZ2]; exact z2c hlt (by rw [uh HF]; rfl))
        go_ret
        exact ⟨z04 (uh HZ3).symm, uh HBW⟩)
     | skip
   all_goals
    refine (uh HWK _ (uh HBW)).mono ?_
    rintro e w2 ⟨rfl, hb2⟩
    have hb3 := (uh HB).trans (hb2.mono (B' := w.heap.size + 1) (by omega))
    have HB3 := zh hb3
    have HBW3 := zh (z05 hb3)
    clear z0 z1 z2 q3 q4 o0 d1
    obtain ⟨z0, z1, z2, qz3⟩ := box3 hb3
    have hbw3 := z05 hb3
    rw [<- hbw3.cell (p := ⟨gw, _, none⟩) hgw] at w0
    rw [<- hbw3.cell (p := ⟨gf, _, none⟩) hgf] at f0
    rw [<- hbw3.cell (p := ⟨g, _, none⟩) qg] at q7 q8
    clear hb2 hb3 hbw3
    have HHX := zh (uh HHK w2 (uh HBW3))
    by_cases hx : x = 0
    ·have b1 : ((x : Int) != 0) = false := by simp [hx]
     go_wp2_with (go_at_call 143; refine (uh HHX).mono ?_; rintro e w' ⟨rfl, rfl⟩)
     exact ⟨⟨k + 1, by omega, by go_num, uh HNN (by rw [uh HF]; simp [hx]), uh HB3⟩, by simp [intOf]; omega⟩
    ·have b1 : ((x : Int) != 0) = true := by simp; omega
     have b1' : (x != 0) = true := by simp [hx]
     rw [b1'] at HF
     cases fa1 with
     | true =>
      have HZ3 := zh (show Z = false by rw [uh HZ2]; exact z2c hlt (by rw [uh HF]; rfl))
      go_wp2_with (go_at_call 143; refine (uh HHX).mono ?_; rintro e w' ⟨rfl, rfl⟩)
      go_ret
      exact ⟨z04 (uh HZ3).symm, uh HBW3⟩
     | false =>
      by_cases hwx : wa1 = x
      ·have b2 : ((wa1 : Int) != x) = false := by simp [hwx]
       go_wp2_with (go_at_call 143; refine (uh HHX).mono ?_; rintro e w' ⟨rfl, rfl⟩)
       exact ⟨⟨k + 1, by omega, by go_num, uh HNN (by rw [uh HF]; simp [hwx]), uh HB3⟩, by simp [intOf]; omega⟩
      ·have b2 : ((wa1 : Int) != x) = true := by simp; omega
       have b2' : (wa1 != x) = true := by simp [hwx]
       rw [b2'] at HF
       cases hd1
       all_goals
        first
         | (have HZ3 := zh (show Z = false by rw [uh HZ2]; exact z2c hlt (by rw [uh HF]; rfl))
            go_wp2_with (go_at_call 143; refine (uh HHX).mono ?_; rintro e w' ⟨rfl, rfl⟩)
            go_ret
            exact ⟨z04 (uh HZ3).symm, uh HBW3⟩)
         | (have HZ3 := zh (uh HNN (by rw [uh HF]; rfl))
            go_wp2_with (go_at_call 143; refine (uh HHX).mono ?_; rintro e w' ⟨rfl, rfl⟩)
            exact ⟨⟨k + 1, by omega, by go_num, uh HZ3, uh HB3⟩, by simp [intOf]; omega⟩)
  ·obtain rfl : k = n := by omega
   have HZ3 := zh (show Z = true by rw [uh HZ2]; exact ar_true (uh HNO))
   clear o3 w3 f3 hb hbw
   go_wp2
   go_ret
   exact ⟨z04 (uh HZ3).symm, uh HBW⟩
end Go.Proofs.YtkbpocecbcaiiaaGreatDoor
