import Derived.Test.YtkbpocecbcaiiaaGreatDoorG28
import Derived.Test.YtkbpocecbcaiiaaGreatDoorG6
/-
  THE WALKS OVER railsref: right, free, move.
-/
namespace Go.Proofs.YtkbpocecbcaiiaaGreatDoor
open Go.RowKit

theorem ar_true {f : Nat → Bool} {n : Nat} (h : ∀ j, j < n → f j = true) : (List.range n).all f = true := by
  rw [List.all_eq_true]; intro j hj; exact h j (List.mem_range.1 hj)
theorem ar_false {f : Nat → Bool} {n k : Nat} (hk : k < n) (h : f k = false) : (List.range n).all f = false := by
  rw [List.all_eq_false]; exact ⟨k, List.mem_range.2 hk, by rw [h]; simp⟩

def RBx.rightB (C : RBx) (f : Fr) (r s : Nat) : Bool := C.L.wantsF r s == 0 || f.rep.getD s 0 == C.L.wantsF r s
def RBx.right (C : RBx) (f : Fr) (r : Nat) : Bool := (List.range C.L.sw.length).all (C.rightB f r)

set_option maxHeartbeats 1000000 in
theorem rright_any (g : Nat) (C : RBx) (vfr : Value) (fr : Fr) (r : Nat) (w : World) (h : RBoxAt w g C) (hfr : FrAt w vfr fr) (hr : r < C.L.rts.length) (hs : C.L.sw.length ≤ 1000) (hfl : fr.rep.length = C.L.sw.length) :
    Calls Tryz.prog 145 #[.pointer (some ⟨g, 0, none⟩), .int .i64 r, vfr] w fun e w' => e = .returned (.bool (C.right fr r)) ∧ Below w.heap.size w w' := by
  have HW := hide (fun (s : Nat) (wz : World) (hz : Below w.heap.size w wz) => rwants_any g C r s wz (h.below hz) hr)
  obtain ⟨vh, vr, vt, vl, vw, vf, vd, va, vq, hB, hH, -⟩ := h
  obtain ⟨vo, vp, rfl, hO, hP⟩ := hfr
  obtain ⟨ah, ch, rfl, -⟩ := SlAt.open hH
  obtain ⟨ao, co, rfl, -⟩ := SlAt.open hO
  obtain ⟨ap, cp, rfl, -, hm, p3⟩ := SlAt.open hP
  obtain ⟨⟨q3, -⟩, -, qg⟩ := box12 hB
  have HK := hide (show ∀ k (h : k < fr.rep.length), C.rightB fr r k = (C.L.wantsF r k == 0 || fr.rep[k] == C.L.wantsF r k) by
    intro k h
    unfold RBx.rightB
    rw [getD_at _ _ _ h])
  unfold RBx.right
  generalize C.rightB fr r = f at *
  generalize fr.rep = re at *
  generalize C.L.sw.length = n at *
  unfold maxLen at hm
  obtain ⟨Z, hZ⟩ : ∃ Z, Z = (List.range n).all f := ⟨_, rfl⟩
  rw [← hZ]
  have HZ2 := hide hZ
  have HFL := hide hfl
  clear hH hO hP hB hZ hfl
  go_enter Tryz.func145, Tryz.ntmps145
  go_wp2
  go_loopw [7] (fun i wr => ∃ k : Nat, k ≤ n ∧ i = .int .i64 k ∧ (∀ j, j < k → f j = true) ∧ Below (w.heap.size + 1) (w.alloc (.cells #[.slice ao fr.occ.length co, .slice ap re.length cp, .string fr.cmds] 163)) wr) (fun i _ => n - (intOf i).toNat)
  case atStart => exact ⟨0, Nat.zero_le _, rfl, fun j h => by omega, Below.refl _ _⟩
  case round =>
    obtain ⟨k, hk, rfl, hno, hb⟩ := hrel
    have HNO := hide hno
    have HB := hide hb
    have hbw := box_below hb
    have HBW := hide hbw
    obtain ⟨z0, z1, z2, qz⟩ := box3 hb
    rw [← hbw.cell (p := ⟨g, _, none⟩) qg] at q3
    clear hno
    by_cases hlt : k < n
    · have hkf : k < re.length := by have := unhide HFL; omega
      obtain ⟨gf, of, haf, hgf, cs, -, hC, hc⟩ := p3 k hkf
      subst haf
      unfold CByte at hC
      subst hC
      have c0 := hc 0 (by omega)
      simp at c0
      have HF := hide (unhide HK k hkf)
      have e1 : (k : Int) < n := by omega
      have e2 : (k : Int) < re.length := by omega
      have HNN := hide (show f k = true → ∀ j, j < k + 1 → f j = true by
        intro h j hj
        by_cases hj' : j < k
        · exact unhide HNO j hj'
        · obtain rfl : j = k := by omega
          exact h)
      clear hc p3 hb hbw
      go_wp2_with fail
      refine (unhide HW k wr (unhide HBW)).mono ?_
      rintro e w1 ⟨rfl, hb1⟩
      have hb2 := (unhide HB).trans (hb1.mono (B' := w.heap.size + 1) (by omega))
      have HB2 := hide hb2
      clear z0 z1 z2 q3
      obtain ⟨z0, z1, z2, qz2⟩ := box3 hb2
      rw [← (box_below hb2).cell (p := ⟨gf, _, none⟩) hgf] at c0
      clear hb1 hb2
      generalize C.L.wantsF r k = x at *
      generalize re[k] = b at *
      by_cases hx : x = 0
      · have b1 : ((x : Int) != 0) = false := by simp [hx]
        go_wp2
        exact ⟨⟨k + 1, by omega, by go_num, unhide HNN (by rw [unhide HF]; simp [hx]), unhide HB2⟩, by simp [intOf]; omega⟩
      · have b1 : ((x : Int) != 0) = true := by simp; omega
        by_cases hbx : b = x
        · have b2 : ((b : Int) != x) = false := by simp [hbx]
          go_wp2
          exact ⟨⟨k + 1, by omega, by go_num, unhide HNN (by rw [unhide HF]; simp [hbx]), unhide HB2⟩, by simp [intOf]; omega⟩
        · have b2 : ((b : Int) != x) = true := by simp; omega
          have HZ3 := hide (show Z = false by rw [unhide HZ2]; exact ar_false hlt (by rw [unhide HF]; simp [hx, hbx]))
          go_wp2
          go_ret
          exact ⟨ret_bool (unhide HZ3).symm, box_below (unhide HB2)⟩
    · obtain rfl : k = n := by omega
      have HZ3 := hide (show Z = true by rw [unhide HZ2]; exact ar_true (unhide HNO))
      clear p3 hb hbw
      go_wp2
      go_ret
      exact ⟨ret_bool (unhide HZ3).symm, unhide HBW⟩

def RBx.takenB (C : RBx) (f : Fr) (s : Nat) : Bool := (C.lockedBy s).isSome || f.occ.getD s false
def RBx.freeB (C : RBx) (f : Fr) (r s : Nat) : Bool :=
  !(has (C.L.rt r).path s && C.takenB f s) && !(C.L.wantsF r s != 0 && (C.failed.getD s false || (C.wanted.getD s 0 != C.L.wantsF r s && (C.heldB s || C.takenB f s))))
def RBx.free (C : RBx) (f : Fr) (r : Nat) : Bool := (List.range C.L.sw.length).all (C.freeB f r)

set_option maxRecDepth 100000 in
set_option maxHeartbeats 4000000 in
theorem rfree_any (g : Nat) (C : RBx) (vfr : Value) (fr : Fr) (r : Nat) (w : World) (h : RBoxAt w g C) (hfr : FrAt w vfr fr) (hr : r < C.L.rts.length) (hs : C.L.sw.length ≤ 1000)
    (hol : fr.occ.length = C.L.sw.length) (hfl : C.failed.length = C.L.sw.length) (hwl : C.wanted.length = C.L.sw.length)
    (hl : C.lines.length ≤ C.L.rts.length) (hr1 : C.L.rts.length ≤ 1000) (hgo : ∀ x, x ∈ C.lines → x.gone ≤ 1000) :
    Calls Tryz.prog 183 #[.pointer (some ⟨g, 0, none⟩), .int .i64 r, vfr] w fun e w' => e = .returned (.bool (C.free fr r)) ∧ Below w.heap.size w w' := by
  have HW := hide (fun (s : Nat) (wz : World) (hz : Below w.heap.size w wz) => rwants_any g C r s wz (h.below hz) hr)
  have HLK := hide (fun (s : Nat) (wz : World) (hz : Below w.heap.size w wz) => rlocked_any g C s wz (h.below hz) hl hr1 hgo)
  have HHD := hide (fun (s : Nat) (wz : World) (hz : Below w.heap.size w wz) => rheld_any g C s wz (h.below hz) hl hr1 hgo)
  obtain ⟨vh, vr, vt, vl, vw, vf, vd, va, vq, hB, hH, hR, -, -, hWa, hF, -⟩ := h
  obtain ⟨vo, vp, rfl, hO, hP⟩ := hfr
  obtain ⟨ah, ch, rfl, -⟩ := SlAt.open hH
  obtain ⟨ar, cr, rfl, -, hmr, r3⟩ := SlAt.open hR
  obtain ⟨ao, co, rfl, -, hmo, o3⟩ := SlAt.open hO
  obtain ⟨ap, cp, rfl, -⟩ := SlAt.open hP
  obtain ⟨aw, cw, rfl, -, hmw, w3⟩ := SlAt.open hWa
  obtain ⟨af, cf, rfl, -, hmf, f3⟩ := SlAt.open hF
  obtain ⟨⟨q3, q4, -, -, q7, q8, -⟩, -, qg⟩ := box12 hB
  obtain ⟨gr, or_, rfl, hgr, csr, -, hCr, hcr⟩ := r3 r hr
  obtain ⟨vpp, vs, vfl, vg, rfl, hPa, -⟩ := hCr
  have d1 := hcr 1 (by omega)
  simp at d1
  have HPa := hide hPa
  have HT := hide (fun s => times_has C.L.rts[r].path s)
  obtain ⟨app, cpp, rfl, -⟩ := SlAt.open hPa
  have HK := hide (show ∀ k (h1 : k < fr.occ.length) (h2 : k < C.failed.length) (h3 : k < C.wanted.length), C.freeB fr r k = (!(has C.L.rts[r].path k && ((C.lockedBy k).isSome || fr.occ[k])) && !(C.L.wantsF r k != 0 && (C.failed[k] || (C.wanted[k] != C.L.wantsF r k && (C.heldB k || ((C.lockedBy k).isSome || fr.occ[k])))))) by
    intro k h1 h2 h3
    unfold RBx.freeB RBx.takenB
    rw [getD_at _ _ _ h1, getD_at _ _ _ h2, getD_at _ _ _ h3, rt_eq C.L r hr])
  unfold RBx.free
  generalize C.freeB fr r = f at *
  generalize C.lockedBy = lk at *
  generalize C.heldB = hd at *
  generalize hwq : C.L.wantsF r = wq at *
  clear hwq
  generalize C.L.rts[r].path = pth at *
  generalize fr.occ = oc at *
  generalize C.failed = fa at *
  generalize C.wanted = wa at *
  generalize C.L.sw.length = n at *
  unfold maxLen at hmr hmo hmw hmf
  obtain ⟨Z, hZ⟩ : ∃ Z, Z = (List.range n).all f := ⟨_, rfl⟩
  rw [← hZ]
  have HZ2 := hide hZ
  have e0 : (r : Int) < C.L.rts.length := by omega
  have HLE := hide (And.intro hol (And.intro hfl hwl))
  clear hH hR hO hP hWa hF hB hZ hPa hcr r3 hgo hol hfl hwl
  generalize C.L.rts.length = nr at *
  go_enter Tryz.func183, Tryz.ntmps183
  go_wp2
  go_loopw [7] (fun i wr => ∃ k : Nat, k ≤ n ∧ i = .int .i64 k ∧ (∀ j, j < k → f j = true) ∧ Below (w.heap.size + 1) (w.alloc (.cells #[.slice ao oc.length co, .slice ap fr.rep.length cp, .string fr.cmds] 163)) wr) (fun i _ => n - (intOf i).toNat)
  case atStart => exact ⟨0, Nat.zero_le _, rfl, fun j h => by omega, Below.refl _ _⟩
  case round =>
    obtain ⟨k, hk, rfl, hno, hb⟩ := hrel
    have HNO := hide hno
    have HB := hide hb
    have hbw := box_below hb
    have HBW := hide hbw
    obtain ⟨z0, z1, z2, qz⟩ := box3 hb
    rw [← hbw.cell (p := ⟨g, _, none⟩) qg] at q3
    clear hno
    by_cases hlt : k < n
    · have hko : k < oc.length := by have := (unhide HLE).1; omega
      have hkf : k < fa.length := by have := (unhide HLE).2.1; omega
      have hkw : k < wa.length := by have := (unhide HLE).2.2; omega
      obtain ⟨go, oo, hao, hgo, cso, -, hCo, hco⟩ := o3 k hko
      obtain ⟨gw, ow, haw, hgw, csw, -, hCw, hcw⟩ := w3 k hkw
      obtain ⟨gf, of, haf, hgf, csf, -, hCf, hcf⟩ := f3 k hkf
      subst hao haw haf
      unfold CBool at hCo hCf
      unfold CByte at hCw
      subst hCo hCw hCf
      have o0 := hco 0 (by omega)
      have w0 := hcw 0 (by omega)
      have f0 := hcf 0 (by omega)
      simp at o0 w0 f0
      have HF := hide (unhide HK k hko hkf hkw)
      have e1 : (k : Int) < n := by omega
      have e2 : (k : Int) < oc.length := by omega
      have e3 : (k : Int) < fa.length := by omega
      have e4 : (k : Int) < wa.length := by omega
      have HNN := hide (show f k = true → ∀ j, j < k + 1 → f j = true by
        intro h j hj
        by_cases hj' : j < k
        · exact unhide HNO j hj'
        · obtain rfl : j = k := by omega
          exact h)
      have HTK := hide (unhide HT k)
      have HTM := hide (fun (wz : World) (hz : Below w.heap.size w wz) => times_any _ _ (k : Int) wz ((unhide HPa).keep (Keeps.below hz)))
      clear hco hcw hcf o3 w3 f3 hb
      rw [← hbw.cell (p := ⟨go, _, none⟩) hgo] at o0
      rw [← hbw.cell (p := ⟨gr, _, none⟩) hgr] at d1
      rw [← hbw.cell (p := ⟨g, _, none⟩) qg] at q4
      clear hbw
      go_wp2_with fail
      refine (unhide HLK k wr (unhide HBW)).mono ?_
      rintro e w1 ⟨rfl, rfl⟩
      obtain ⟨lo, hlo⟩ : ∃ lo, lo = (lk k).isSome := ⟨_, rfl⟩
      have hli : decide ((0 : Int) ≤ optI (lk k)) = lo := by rw [hlo]; cases lk k <;> simp [optI]
      obtain ⟨hs', hhs⟩ : ∃ b, decide (0 < timesZ (secs pth) (k : Int)) = b := ⟨_, rfl⟩
      rw [← hlo, ← unhide HTK, hhs] at HF
      have HHK := hide (unhide HHD k)
      have HWK := hide (unhide HW k)
      clear hlo HTK HHD HW HLK HT
      generalize optI (lk k) = li at *
      generalize timesZ (secs pth) (k : Int) = tz at *
      generalize oc[k] = oo1 at *
      generalize fa[k] = fa1 at *
      generalize wa[k] = wa1 at *
      generalize hd k = hd1 at *
      generalize wq k = x at *
      cases lo <;> cases oo1 <;> cases hs'
      all_goals
        go_wp2_with (go_at_call 155; refine (unhide HTM _ (unhide HBW)).mono ?_; rintro e w' ⟨rfl, rfl⟩)
      all_goals
        first
          | (have HZ3 := hide (show Z = false by rw [unhide HZ2]; exact ar_false hlt (by rw [unhide HF]; rfl))
             go_ret
             exact ⟨ret_bool (unhide HZ3).symm, unhide HBW⟩)
          | skip
      all_goals
        refine (unhide HWK _ (unhide HBW)).mono ?_
        rintro e w2 ⟨rfl, hb2⟩
        have hb3 := (unhide HB).trans (hb2.mono (B' := w.heap.size + 1) (by omega))
        have HB3 := hide hb3
        have HBW3 := hide (box_below hb3)
        clear z0 z1 z2 q3 q4 o0 d1
        obtain ⟨z0, z1, z2, qz3⟩ := box3 hb3
        have hbw3 := box_below hb3
        rw [← hbw3.cell (p := ⟨gw, _, none⟩) hgw] at w0
        rw [← hbw3.cell (p := ⟨gf, _, none⟩) hgf] at f0
        rw [← hbw3.cell (p := ⟨g, _, none⟩) qg] at q7 q8
        clear hb2 hb3 hbw3
        have HHX := hide (unhide HHK w2 (unhide HBW3))
        by_cases hx : x = 0
        · have b1 : ((x : Int) != 0) = false := by simp [hx]
          go_wp2_with (go_at_call 143; refine (unhide HHX).mono ?_; rintro e w' ⟨rfl, rfl⟩)
          exact ⟨⟨k + 1, by omega, by go_num, unhide HNN (by rw [unhide HF]; simp [hx]), unhide HB3⟩, by simp [intOf]; omega⟩
        · have b1 : ((x : Int) != 0) = true := by simp; omega
          have b1' : (x != 0) = true := by simp [hx]
          rw [b1'] at HF
          cases fa1 with
          | true =>
            have HZ3 := hide (show Z = false by rw [unhide HZ2]; exact ar_false hlt (by rw [unhide HF]; rfl))
            go_wp2_with (go_at_call 143; refine (unhide HHX).mono ?_; rintro e w' ⟨rfl, rfl⟩)
            go_ret
            exact ⟨ret_bool (unhide HZ3).symm, unhide HBW3⟩
          | false =>
            by_cases hwx : wa1 = x
            · have b2 : ((wa1 : Int) != x) = false := by simp [hwx]
              go_wp2_with (go_at_call 143; refine (unhide HHX).mono ?_; rintro e w' ⟨rfl, rfl⟩)
              exact ⟨⟨k + 1, by omega, by go_num, unhide HNN (by rw [unhide HF]; simp [hwx]), unhide HB3⟩, by simp [intOf]; omega⟩
            · have b2 : ((wa1 : Int) != x) = true := by simp; omega
              have b2' : (wa1 != x) = true := by simp [hwx]
              rw [b2'] at HF
              cases hd1
              all_goals
                first
                  | (have HZ3 := hide (show Z = false by rw [unhide HZ2]; exact ar_false hlt (by rw [unhide HF]; rfl))
                     go_wp2_with (go_at_call 143; refine (unhide HHX).mono ?_; rintro e w' ⟨rfl, rfl⟩)
                     go_ret
                     exact ⟨ret_bool (unhide HZ3).symm, unhide HBW3⟩)
                  | (have HZ3 := hide (unhide HNN (by rw [unhide HF]; rfl))
                     go_wp2_with (go_at_call 143; refine (unhide HHX).mono ?_; rintro e w' ⟨rfl, rfl⟩)
                     exact ⟨⟨k + 1, by omega, by go_num, unhide HZ3, unhide HB3⟩, by simp [intOf]; omega⟩)
    · obtain rfl : k = n := by omega
      have HZ3 := hide (show Z = true by rw [unhide HZ2]; exact ar_true (unhide HNO))
      clear o3 w3 f3 hb hbw
      go_wp2
      go_ret
      exact ⟨ret_bool (unhide HZ3).symm, unhide HBW⟩
end Go.Proofs.YtkbpocecbcaiiaaGreatDoor

/-
  THE WALK OVER railsref's watch.
-/
namespace Go.Proofs.YtkbpocecbcaiiaaGreatDoor
open Go.RowKit

def RBx.lateF (C : RBx) (f : Fr) (s : Nat) : Nat :=
  if C.L.sw.getD s false && C.heldB s && !C.failed.getD s false && f.rep.getD s 0 != C.wanted.getD s 0 then C.late.getD s 0 + 1 else 0
def RBx.watch1 (C : RBx) (f : Fr) (s : Nat) : RBx :=
  if C.lateF f s = C.L.T then { C with late := (C.late.set s (C.lateF f s)).set s 0, failed := C.failed.set s true } else { C with late := C.late.set s (C.lateF f s) }
def RBx.watchN (C : RBx) (f : Fr) : Nat → RBx
  | 0 => C
  | k + 1 => (C.watchN f k).watch1 f k
def RBx.watch (C : RBx) (f : Fr) : RBx := C.watchN f C.L.sw.length

theorem watch1_pres (C : RBx) (f : Fr) (s : Nat) : (C.watch1 f s).L = C.L ∧ (C.watch1 f s).lines = C.lines ∧ (C.watch1 f s).wanted = C.wanted ∧ (C.watch1 f s).sta = C.sta ∧ (C.watch1 f s).waits = C.waits ∧
    (C.watch1 f s).failed.length = C.failed.length ∧ (C.watch1 f s).late.length = C.late.length := by
  unfold RBx.watch1
  split <;> simp
theorem watchN_pres (C : RBx) (f : Fr) (k : Nat) : (C.watchN f k).L = C.L ∧ (C.watchN f k).lines = C.lines ∧ (C.watchN f k).wanted = C.wanted ∧ (C.watchN f k).sta = C.sta ∧ (C.watchN f k).waits = C.waits ∧
    (C.watchN f k).failed.length = C.failed.length ∧ (C.watchN f k).late.length = C.late.length := by
  induction k with
  | zero => exact ⟨rfl, rfl, rfl, rfl, rfl, rfl, rfl⟩
  | succ k ih =>
    have h := watch1_pres (C.watchN f k) f k
    exact ⟨h.1.trans ih.1, h.2.1.trans ih.2.1, h.2.2.1.trans ih.2.2.1, h.2.2.2.1.trans ih.2.2.2.1, h.2.2.2.2.1.trans ih.2.2.2.2.1, h.2.2.2.2.2.1.trans ih.2.2.2.2.2.1, h.2.2.2.2.2.2.trans ih.2.2.2.2.2.2⟩
theorem own_some {w : World} {b : Nat} {e : TypeId} {sz : Nat} {v : Value} {n : Nat} {xs : List Value} (h : w.ownsRow b e sz v n xs) (hn : 0 < n) : ∃ g cap, v = .slice (some ⟨g, 0, none⟩) n cap ∧ n ≤ cap ∧ cap ≤ maxLen ∧ g < w.heap.size := by
  rcases h.2 with ⟨-, h0⟩ | ⟨g, cap, cur, hv, hg, hh, h1, h2, -⟩
  · omega
  · exact ⟨g, cap, hv, h1, h2, blk_lt hh⟩

theorem typed_ne {w : World} {a b : Nat} {e e' : TypeId} (ha : Typed w a e) (hb : Typed w b e') (h : e ≠ e') : a ≠ b := by
  rintro rfl
  obtain ⟨c1, f1, h1⟩ := ha
  obtain ⟨c2, f2, h2⟩ := hb
  rw [h1] at h2
  simp at h2
  exact h h2.2.1
theorem only_drewN {F : Nat → Prop} {a w : World} (h : Only F a w) (n : Nat) : Only F a (w.drewN n) := h.trans (Only.of_below (below_drewN (Below.refl _ _) n))

set_option maxRecDepth 100000 in
set_option maxHeartbeats 8000000 in
theorem rwatch_any (R P : Nat → Prop) (g : Nat) (C : RBx) (vh vr vt vl vw vf vd va vq : Value) (ms : List Value) (vfr : Value) (f : Fr) (w : World) (h : RM w R g C vh vr vt vl vw vf vd va vq ms) (hf : FrIn P w vfr f)
    (hP : ∀ b, P b → vd.ownBlock ≠ some b ∧ vf.ownBlock ≠ some b)
    (hs : C.L.sw.length ≤ 1000) (hwl : C.wanted.length = C.L.sw.length) (hfl : C.failed.length = C.L.sw.length) (hdl : C.late.length = C.L.sw.length) (hpl : f.rep.length = C.L.sw.length)
    (hl : C.lines.length ≤ C.L.rts.length) (hr1 : C.L.rts.length ≤ 1000) (hgo : ∀ x, x ∈ C.lines → x.gone ≤ 1000) (hlb : ∀ x, x ∈ C.late → x ≤ 1000) :
    Calls Tryz.prog 99 #[.pointer (some ⟨g, 0, none⟩), vfr] w fun e w' => e = .returned (.tuple #[]) ∧ RM w' R g (C.watch f) vh vr vt vl vw vf vd va vq ms ∧ FrIn P w' vfr f ∧ Only (fun b => vd.ownBlock = some b ∨ vf.ownBlock = some b) w w' := by
  have hf0 := hf.at
  obtain ⟨vo, vp, rfl, hO, hPr⟩ := hf0
  obtain ⟨ao, co, rfl, -⟩ := SlAt.open hO
  obtain ⟨ap, cp, rfl, -⟩ := SlAt.open hPr
  have hH := (h.plan.2 w (fun _ _ => rfl)).1
  obtain ⟨ah, ch, rfl, -⟩ := SlAt.open hH
  clear hO hPr hH
  unfold RBx.watch
  obtain ⟨n, hn⟩ : ∃ n, n = C.L.sw.length := ⟨_, rfl⟩
  have HLN := hide (And.intro hwl (And.intro hfl (And.intro hdl hpl)))
  have HSE := hide hf
  have HRM := hide h
  have HPP := hide hP
  have HGO := hide hgo
  have HLB := hide hlb
  have HW0 := hide (below_alloc w (.cells #[.slice ao f.occ.length co, .slice ap f.rep.length cp, .string f.cmds] 163))
  have HFB := hide (heap_alloc_new w (.cells #[.slice ao f.occ.length co, .slice ap f.rep.length cp, .string f.cmds] 163))
  have HFW := hide (show ∀ b, (vd.ownBlock = some b ∨ vf.ownBlock = some b) → b < w.heap.size from fun b hb => by
    rcases hb with hb | hb
    · exact (h.late.lt b hb).2
    · exact (h.failed.lt b hb).2)
  clear hP hgo hlb hwl hfl hdl hpl h hf
  go_enter Tryz.func99, Tryz.ntmps99
  go_wp2
  go_loopw [4] (fun i wr => ∃ k : Nat, i = .int .i64 k ∧ k ≤ n ∧ RM wr R g (C.watchN f k) (.slice ah C.L.sw.length ch) vr vt vl vw vf vd va vq ms ∧ FrIn P wr (.agg #[.slice ao f.occ.length co, .slice ap f.rep.length cp, .string f.cmds]) f ∧
      Only (fun b => vd.ownBlock = some b ∨ vf.ownBlock = some b) w wr ∧ wr.heap[w.heap.size]? = some (.cells #[.slice ao f.occ.length co, .slice ap f.rep.length cp, .string f.cmds] 163 (0, 0)) ∧ (∀ x, x ∈ (C.watchN f k).late → x ≤ 1000 + k)) (fun i _ => n - (intOf i).toNat)
  case atStart =>
    exact ⟨0, rfl, Nat.zero_le _, (unhide HRM).below (unhide HW0), (unhide HSE).below (unhide HW0), Only.of_below (unhide HW0), unhide HFB, fun x hx => by have := unhide HLB x hx; omega⟩
  case round =>
    clear HRM HSE HW0 HFB
    obtain ⟨k, rfl, hk, hM, hFr, hO, hfb, hlk⟩ := hrel
    obtain ⟨p1, p2, p3, p4, p5, p6, p7⟩ := watchN_pres C f k
    obtain ⟨D, hD⟩ : ∃ D, D = C.watchN f k := ⟨_, rfl⟩
    rw [← hD] at hM hlk p1 p2 p3 p4 p5 p6 p7
    have HM := hide hM
    have HFr := hide hFr
    have HO := hide hO
    have HLK := hide hlk
    obtain ⟨⟨y0, y1, y2⟩, -, qf⟩ := tri0 hfb
    have HFB := hide hfb
    obtain ⟨⟨q3, q4, q5, q6, q7, q8, q9, q10, q11⟩, -, qg⟩ := box12 hM.box
    have q0 := blk_cell0 hM.box 0
    simp at q0
    clear hfb hlk hO
    by_cases hlt : k < n
    · have hHD := rheld_any g D k wr hM.at (by rw [p1, p2]; exact hl) (by rw [p1]; exact hr1) (by rw [p2]; exact unhide HGO)
      have HHD := hide hHD
      obtain ⟨l1, l2, l3, l4⟩ := unhide HLN
      have ew : D.wanted.length = n := by rw [p3, l1, hn]
      have ef : D.failed.length = n := by rw [p6, l2, hn]
      have ed : D.late.length = n := by rw [p7, l3, hn]
      have es : D.L.sw.length = n := by rw [p1, hn]
      have er : f.rep.length = n := by rw [l4, hn]
      obtain ⟨gw, cw, rfl, hw1, hw2, hgw⟩ := own_some hM.wanted (by omega)
      obtain ⟨gf, cf, rfl, hf1, hf2, hgf⟩ := own_some hM.failed (by omega)
      obtain ⟨gd, cd, rfl, hd1, hd2, hgd⟩ := own_some hM.late (by omega)
      unfold maxLen at hw2 hf2 hd2
      have hkw : k < D.wanted.length := by omega
      have hkf : k < D.failed.length := by omega
      have hkd : k < D.late.length := by omega
      have hks : k < D.L.sw.length := by omega
      have hkr : k < f.rep.length := by omega
      have xw : wr.cell? ⟨gw, k, none⟩ = some (.int .u8 (D.wanted[k] : Nat)) := by rw [hM.wanted.cellAt k (by omega)]; simp [bytsV, hkw]
      have xf : wr.cell? ⟨gf, k, none⟩ = some (.bool D.failed[k]) := by rw [hM.failed.cellAt k (by omega)]; simp [boolsV, hkf]
      have xd : wr.cell? ⟨gd, k, none⟩ = some (.int .i64 (D.late[k] : Nat)) := by rw [hM.late.cellAt k (by omega)]; simp [intsV, hkd]
      have zd := hM.late.frozenAt k
      have hlb1 := unhide HLK _ (List.getElem_mem hkd)
      obtain ⟨ah', ch', he, -, hm1, h3⟩ := SlAt.open (hM.plan.2 wr (fun _ _ => rfl)).1
      rw [p1] at he
      simp only [Value.slice.injEq, true_and] at he
      obtain ⟨rfl, rfl⟩ := he
      obtain ⟨gs, os, hah, hgs, css, -, hCs, hcs⟩ := h3 k hks
      subst hah
      unfold CBool at hCs
      subst hCs
      have xs := hcs 0 (by omega)
      simp at xs
      obtain ⟨vo', vp', he, -, hPr⟩ := hFr.at
      simp only [Value.agg.injEq, Array.mk.injEq, List.cons.injEq, and_true] at he
      obtain ⟨-, rfl⟩ := he
      obtain ⟨ap', cp', he, -, hm2, r3⟩ := SlAt.open hPr
      simp only [Value.slice.injEq, true_and] at he
      obtain ⟨rfl, rfl⟩ := he
      obtain ⟨gp, op, hap, hgp, csp, -, hCp, hcp⟩ := r3 k hkr
      subst hap
      unfold CByte at hCp
      subst hCp
      have xp := hcp 0 (by omega)
      simp at xp
      have HLF := hide (show D.lateF f k = if D.L.sw[k] && D.heldB k && !D.failed[k] && f.rep[k] != D.wanted[k] then D.late[k] + 1 else 0 by
        unfold RBx.lateF
        rw [getD_at _ _ _ hks, getD_at _ _ _ hkf, getD_at _ _ _ hkr, getD_at _ _ _ hkw, getD_at _ _ _ hkd])
      have HNX := hide (show C.watchN f (k + 1) = D.watch1 f k by rw [hD]; rfl)
      clear hD
      have m1 : (k : Int) < C.L.sw.length := by omega
      have m2 : (k : Int) < D.wanted.length := by omega
      have m3 : (k : Int) < D.failed.length := by omega
      have m4 : (k : Int) < D.late.length := by omega
      have m5 : (k : Int) < f.rep.length := by omega
      have HDL := hide (And.intro ew (And.intro ef (And.intro ed p1)))
      clear ew ef ed es er h3 r3 hcs hcp hPr hHD hM hFr l1 l2 l3 l4 p2 p3 p4 p5 p6 p7 p1 hn
      generalize D.L.sw[k] = bsw at *
      generalize D.heldB k = bhd at *
      obtain ⟨bfa, hfa⟩ : ∃ b, D.failed[k] = b := ⟨_, rfl⟩
      rw [hfa] at xf HLF
      have HFA := hide (show D.failed.getD k false = bfa by rw [getD_at _ _ _ hkf]; exact hfa)
      clear hfa
      generalize f.rep[k] = re at *
      generalize D.wanted[k] = wa at *
      generalize D.late[k] = la at *
      have HDI := hide (And.intro hkf (And.intro hkd hkw))
      clear hkf hkd hkw hks hkr
      generalize hnf : D.failed.length = nf at *
      generalize hnw : D.wanted.length = nw at *
      generalize hnd : D.late.length = nd at *
      have HNE := hide (And.intro hnf (And.intro hnw hnd))
      clear hnf hnw hnd
      obtain ⟨of, hof⟩ : ∃ of : Nat, of = 0 := ⟨0, rfl⟩
      have q8' : wr.cell? ⟨g, 8, none⟩ = some (.slice (some ⟨gf, of, none⟩) nf cf) := by rw [hof]; exact q8
      have q7' : wr.cell? ⟨g, 7, none⟩ = some (.slice (some ⟨gw, of, none⟩) nw cw) := by rw [hof]; exact q7
      have xf' : wr.cell? ⟨gf, of + k, none⟩ = some (.bool bfa) := by rw [hof, Nat.zero_add]; exact xf
      have xw' : wr.cell? ⟨gw, of + k, none⟩ = some (.int .u8 (wa : Nat)) := by rw [hof, Nat.zero_add]; exact xw
      clear hof q7 q8 xf xw
      have hcase : (bsw = false ∨ (bsw = true ∧ bhd = false) ∨ (bsw = true ∧ bhd = true ∧ bfa = true) ∨ (bsw = true ∧ bhd = true ∧ bfa = false ∧ re = wa)) ∨ (bsw = true ∧ bhd = true ∧ bfa = false ∧ re ≠ wa) := by
        cases bsw <;> cases bhd <;> cases bfa <;> simp <;> omega
      rcases hcase with hcase | ⟨rfl, rfl, rfl, hrw⟩
      · have HLX := hide (show D.lateF f k = 0 by
          rw [unhide HLF, if_neg]
          rcases hcase with rfl | ⟨rfl, rfl⟩ | ⟨rfl, rfl, rfl⟩ | ⟨rfl, rfl, rfl, rfl⟩ <;> simp)
        rcases hcase with rfl | ⟨rfl, rfl⟩ | ⟨rfl, rfl, rfl⟩ | ⟨rfl, rfl, rfl, rfl⟩
        all_goals
          go_wp2_with (go_at_call 143; refine (unhide HHD).mono ?_; rintro e w' ⟨rfl, rfl⟩)
          go_quiet (fail)
          go_wp2
          generalize hW1 : World.setCell _ _ _ = W1
          have hR1 : RM W1 R g { D with late := D.late.set k 0 } (.slice (some ⟨gs, os, none⟩) C.L.sw.length ch) vr vt vl (.slice (some ⟨gw, 0, none⟩) nw cw) (.slice (some ⟨gf, 0, none⟩) nf cf) (.slice (some ⟨gd, 0, none⟩) nd cd) va vq ms := by
            rw [← hW1]
            exact ((unhide HM).below (below_drewN (Below.refl _ _) _)).setLate (unhide HNE).2.2.symm k 0
          have hO1 : Only (fun b => (Value.slice (some ⟨gd, 0, none⟩) nd cd).ownBlock = some b ∨ (Value.slice (some ⟨gf, 0, none⟩) nf cf).ownBlock = some b) w' W1 := by
            rw [← hW1]
            exact (Only.of_below (below_drewN (Below.refl _ _) _)).trans (Only.setCell (a := ⟨gd, k, none⟩) (Or.inl rfl) _)
          have HR1 := hide hR1
          have hl1 : W1.ownsRow 0 3 1 (.slice (some ⟨gd, 0, none⟩) nd cd) nd (intsV (D.late.set k 0)) := by have := hR1.late; simp only [List.length_set, (unhide HNE).2.2] at this; exact this
          have HO1 := hide hO1
          have xd1 : W1.cell? ⟨gd, k, none⟩ = some (.int .i64 (0 : Nat)) := by
            have hkd := (unhide HDI).2.1
            have := hl1.cellAt k (by omega)
            have hkd' : k < D.late.length := by rw [(unhide HNE).2.2]; exact (unhide HDI).2.1
            rw [this]; simp [intsV, hkd']
          have hf9 : W1.ownsRow 0 4 1 (.slice (some ⟨gf, 0, none⟩) nf cf) nf (boolsV D.failed) := by have := hR1.failed; simp only [(unhide HNE).1] at this; exact this
          have zf1 := hf9.frozenAt k
          have zd1 := hl1.frozenAt k
          have xf1 : W1.cell? ⟨gf, k, none⟩ = some (.bool (D.failed.getD k false)) := by
            have hkf := (unhide HDI).1
            have := hf9.cellAt k (by omega)
            rw [this]
            have hkf' : k < D.failed.length := by rw [(unhide HNE).1]; exact hkf
            rw [getD_at _ _ _ hkf']
            simp [boolsV, hkf']
          have t1 := own_typed (k := gd) hl1 rfl
          have t2 := own_typed (k := gf) hf9 rfl
          have t3 : Typed W1 g 159 := ⟨_, _, hR1.box⟩
          have n1 : g ≠ gd := typed_ne t3 t1 (by decide)
          have n2 : g ≠ gf := typed_ne t3 t2 (by decide)
          have n3 : gf ≠ gd := typed_ne t2 t1 (by decide)
          have n4 := Ne.symm n1
          have n5 := Ne.symm n2
          have n6 := Ne.symm n3
          clear q0 q3 q4 q5 q6 q7' q8' q9 q10 q11 xd xf' xw' zd t1 t2 t3
          obtain ⟨⟨q3, q4, q5, q6, q7, q8, q9, q10, q11⟩, -, qg1⟩ := box12 hR1.box
          have q0 := blk_cell0 hR1.box 0
          simp at q0
          clear hl1 hf9 hR1 hO1
          by_cases hT : (0 : Nat) = D.L.T
          · have bT : (((0 : Nat) : Int) == (D.L.T : Int)) = true := by simp [hT]
            have HFIN := hide (show C.watchN f (k + 1) = { D with late := (D.late.set k 0).set k 0, failed := D.failed.set k true } by
              rw [unhide HNX]
              unfold RBx.watch1
              rw [unhide HLX, if_pos hT])
            clear hT
            go_quiet (fail)
            go_wp2
            have hRM2 := fun n => (((unhide HR1).below (below_drewN (Below.refl _ _) n)).setFailed (unhide HNE).1.symm k true).setLate (by simp [(unhide HNE).2.2]) k 0
            have hO2 := fun n => (unhide HO1).trans (((Only.of_below (below_drewN (Below.refl W1.heap.size W1) n)).trans (Only.setCell (a := ⟨gf, k, none⟩) (Or.inr rfl) (.bool true))).trans (Only.setCell (a := ⟨gd, k, none⟩) (Or.inl rfl) (.int .i64 0)))
            refine ⟨⟨k + 1, by go_num, by omega, ?_, (unhide HFr).only (hO2 _) (fun b hb hh => ?_), (unhide HO).trans (hO2 _), ?_, ?_⟩, by simp [intOf]; omega⟩
            · rw [unhide HFIN]; exact hRM2 _
            · rcases hh with hh | hh
              · exact (unhide HPP b hb).1 hh
              · exact (unhide HPP b hb).2 hh
            · rw [(hO2 _).block _ qf (fun hh => by have := unhide HFW _ hh; omega)]; exact unhide HFB
            · rw [unhide HFIN]
              intro y hy
              rcases List.mem_or_eq_of_mem_set hy with h | h
              · rcases List.mem_or_eq_of_mem_set h with h | h
                · have := unhide HLK y h; omega
                · omega
              · omega
          · have bT : (((0 : Nat) : Int) == (D.L.T : Int)) = false := by simp; omega
            have HFIN := hide (show C.watchN f (k + 1) = { D with late := D.late.set k 0 } by
              rw [unhide HNX]
              unfold RBx.watch1
              rw [unhide HLX, if_neg hT])
            clear hT
            go_quiet (fail)
            go_wp2
            have hRM2 := fun n => (unhide HR1).below (below_drewN (Below.refl _ _) n)
            have hO2 := fun n => (unhide HO1).trans (Only.of_below (below_drewN (Below.refl W1.heap.size W1) n))
            refine ⟨⟨k + 1, by go_num, by omega, ?_, (unhide HFr).only (hO2 _) (fun b hb hh => ?_), (unhide HO).trans (hO2 _), ?_, ?_⟩, by simp [intOf]; omega⟩
            · rw [unhide HFIN]; exact hRM2 _
            · rcases hh with hh | hh
              · exact (unhide HPP b hb).1 hh
              · exact (unhide HPP b hb).2 hh
            · rw [(hO2 _).block _ qf (fun hh => by have := unhide HFW _ hh; omega)]; exact unhide HFB
            · rw [unhide HFIN]
              intro y hy
              rcases List.mem_or_eq_of_mem_set hy with h | h
              · have := unhide HLK y h; omega
              · omega
      · obtain ⟨la1, hla1⟩ : ∃ l : Nat, (la : Int) + 1 = l := ⟨la + 1, by omega⟩
        have HLX := hide (show D.lateF f k = la1 by
          rw [unhide HLF, if_pos (by simp [hrw])]; omega)
        have hlb2 : la1 ≤ 1000 + (k + 1) := by omega
        have b3 : ((re : Int) != wa) = true := by simp; omega
        have hwr1 : IntKind.i64.wrap ((la : Int) + 1) = (la1 : Int) := by rw [hla1]; exact Go.IntWalk.i64_in _ (by omega)
        go_wp2_with (go_at_call 143; refine (unhide HHD).mono ?_; rintro e w' ⟨rfl, rfl⟩)
        go_quiet (fail)
        go_wp2
        go_region
        all_goals
          go_wp2
          generalize hW1 : World.setCell _ _ _ = W1
          have hR1 : RM W1 R g { D with late := D.late.set k la1 } (.slice (some ⟨gs, os, none⟩) C.L.sw.length ch) vr vt vl (.slice (some ⟨gw, 0, none⟩) nw cw) (.slice (some ⟨gf, 0, none⟩) nf cf) (.slice (some ⟨gd, 0, none⟩) nd cd) va vq ms := by
            rw [← hW1]
            first
              | exact ((unhide HM).below (below_drewN (Below.refl _ _) _)).setLate (unhide HNE).2.2.symm k la1
              | exact ((unhide HM).below ((below_drewN (Below.refl _ _) _).drew)).setLate (unhide HNE).2.2.symm k la1
          have hO1 : Only (fun b => (Value.slice (some ⟨gd, 0, none⟩) nd cd).ownBlock = some b ∨ (Value.slice (some ⟨gf, 0, none⟩) nf cf).ownBlock = some b) w' W1 := by
            rw [← hW1]
            first
              | exact (Only.of_below (below_drewN (Below.refl _ _) _)).trans (Only.setCell (a := ⟨gd, k, none⟩) (Or.inl rfl) _)
              | exact (Only.of_below ((below_drewN (Below.refl _ _) _).drew)).trans (Only.setCell (a := ⟨gd, k, none⟩) (Or.inl rfl) _)
          have HR1 := hide hR1
          have hl1 : W1.ownsRow 0 3 1 (.slice (some ⟨gd, 0, none⟩) nd cd) nd (intsV (D.late.set k la1)) := by have := hR1.late; simp only [List.length_set, (unhide HNE).2.2] at this; exact this
          have HO1 := hide hO1
          have xd1 : W1.cell? ⟨gd, k, none⟩ = some (.int .i64 (la1 : Nat)) := by
            have hkd := (unhide HDI).2.1
            have := hl1.cellAt k (by omega)
            have hkd' : k < D.late.length := by rw [(unhide HNE).2.2]; exact (unhide HDI).2.1
            rw [this]; simp [intsV, hkd']
          have hf9 : W1.ownsRow 0 4 1 (.slice (some ⟨gf, 0, none⟩) nf cf) nf (boolsV D.failed) := by have := hR1.failed; simp only [(unhide HNE).1] at this; exact this
          have zf1 := hf9.frozenAt k
          have zd1 := hl1.frozenAt k
          have xf1 : W1.cell? ⟨gf, k, none⟩ = some (.bool (D.failed.getD k false)) := by
            have hkf := (unhide HDI).1
            have := hf9.cellAt k (by omega)
            rw [this]
            have hkf' : k < D.failed.length := by rw [(unhide HNE).1]; exact hkf
            rw [getD_at _ _ _ hkf']
            simp [boolsV, hkf']
          have t1 := own_typed (k := gd) hl1 rfl
          have t2 := own_typed (k := gf) hf9 rfl
          have t3 : Typed W1 g 159 := ⟨_, _, hR1.box⟩
          have n1 : g ≠ gd := typed_ne t3 t1 (by decide)
          have n2 : g ≠ gf := typed_ne t3 t2 (by decide)
          have n3 : gf ≠ gd := typed_ne t2 t1 (by decide)
          have n4 := Ne.symm n1
          have n5 := Ne.symm n2
          have n6 := Ne.symm n3
          clear q0 q3 q4 q5 q6 q7' q8' q9 q10 q11 xd xf' xw' zd t1 t2 t3
          obtain ⟨⟨q3, q4, q5, q6, q7, q8, q9, q10, q11⟩, -, qg1⟩ := box12 hR1.box
          have q0 := blk_cell0 hR1.box 0
          simp at q0
          clear hl1 hf9 hR1 hO1
          by_cases hT : (la1 : Nat) = D.L.T
          · have bT : (((la1 : Nat) : Int) == (D.L.T : Int)) = true := by simp [hT]
            have HFIN := hide (show C.watchN f (k + 1) = { D with late := (D.late.set k la1).set k 0, failed := D.failed.set k true } by
              rw [unhide HNX]
              unfold RBx.watch1
              rw [unhide HLX, if_pos hT])
            clear hT
            go_quiet (fail)
            go_wp2
            have hRM2 := fun n => (((unhide HR1).below (below_drewN (Below.refl _ _) n)).setFailed (unhide HNE).1.symm k true).setLate (by simp [(unhide HNE).2.2]) k 0
            have hO2 := fun n => (unhide HO1).trans (((Only.of_below (below_drewN (Below.refl W1.heap.size W1) n)).trans (Only.setCell (a := ⟨gf, k, none⟩) (Or.inr rfl) (.bool true))).trans (Only.setCell (a := ⟨gd, k, none⟩) (Or.inl rfl) (.int .i64 0)))
            refine ⟨⟨k + 1, by go_num, by omega, ?_, (unhide HFr).only (hO2 _) (fun b hb hh => ?_), (unhide HO).trans (hO2 _), ?_, ?_⟩, by simp [intOf]; omega⟩
            · rw [unhide HFIN]; exact hRM2 _
            · rcases hh with hh | hh
              · exact (unhide HPP b hb).1 hh
              · exact (unhide HPP b hb).2 hh
            · rw [(hO2 _).block _ qf (fun hh => by have := unhide HFW _ hh; omega)]; exact unhide HFB
            · rw [unhide HFIN]
              intro y hy
              rcases List.mem_or_eq_of_mem_set hy with h | h
              · rcases List.mem_or_eq_of_mem_set h with h | h
                · have := unhide HLK y h; omega
                · omega
              · omega
          · have bT : (((la1 : Nat) : Int) == (D.L.T : Int)) = false := by simp; omega
            have HFIN := hide (show C.watchN f (k + 1) = { D with late := D.late.set k la1 } by
              rw [unhide HNX]
              unfold RBx.watch1
              rw [unhide HLX, if_neg hT])
            clear hT
            go_quiet (fail)
            go_wp2
            have hRM2 := fun n => (unhide HR1).below (below_drewN (Below.refl _ _) n)
            have hO2 := fun n => (unhide HO1).trans (Only.of_below (below_drewN (Below.refl W1.heap.size W1) n))
            refine ⟨⟨k + 1, by go_num, by omega, ?_, (unhide HFr).only (hO2 _) (fun b hb hh => ?_), (unhide HO).trans (hO2 _), ?_, ?_⟩, by simp [intOf]; omega⟩
            · rw [unhide HFIN]; exact hRM2 _
            · rcases hh with hh | hh
              · exact (unhide HPP b hb).1 hh
              · exact (unhide HPP b hb).2 hh
            · rw [(hO2 _).block _ qf (fun hh => by have := unhide HFW _ hh; omega)]; exact unhide HFB
            · rw [unhide HFIN]
              intro y hy
              rcases List.mem_or_eq_of_mem_set hy with h | h
              · have := unhide HLK y h; omega
              · omega
    · obtain rfl : k = n := by omega
      have HZ := hide (show C.watchN f C.L.sw.length = D by rw [← hn, hD])
      have l1 : (C.L.sw.length : Int) ≤ k := by omega
      clear hM hFr
      go_wp2
      refine bodyPost_end (v := .tuple #[]) (by simp [results, Tryz.results99, go_sem]) rfl ?_
      exact ⟨rfl, by rw [unhide HZ]; exact unhide HM, unhide HFr, unhide HO⟩
end Go.Proofs.YtkbpocecbcaiiaaGreatDoor
