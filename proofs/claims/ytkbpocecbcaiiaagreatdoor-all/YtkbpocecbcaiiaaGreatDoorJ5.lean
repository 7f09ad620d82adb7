import Derived.Test.YtkbpocecbcaiiaaGreatDoorJ4
namespace Go.Proofs.YtkbpocecbcaiiaaGreatDoor
open Go.RowKit
def RBx.moveB (C : RBx) (f : Fr) (s r : Nat) : Bool :=
 (C.line r).ph == 119 && C.L.wantsF r s != 0 && !f.occ.getD s false && !C.failed.getD s false && f.rep.getD s 0 != C.wanted.getD s 0
def RBx.moveF (C : RBx) (f : Fr) (s : Nat) : Nat := if (List.range C.lines.length).any (C.moveB f s) then C.wanted.getD s 0 else 46
set_option maxRecDepth 100000 in
set_option maxHeartbeats 4000000 in
theorem rmove_any (g : Nat) (C : RBx) (vfr : Value) (fr : Fr) (s : Nat) (w : World) (h : RBoxAt w g C) (hfr : FrAt w vfr fr) (hs : s < C.L.sw.length)
  (hol : fr.occ.length = C.L.sw.length) (hpl : fr.rep.length = C.L.sw.length) (hfl : C.failed.length = C.L.sw.length) (hwl : C.wanted.length = C.L.sw.length)
  (hl : C.lines.length <= C.L.rts.length) (hr1 : C.L.rts.length <= 1000) :
  Calls Tryz.prog 103 #[.pointer (some ⟨g, 0, none⟩), .int .i64 s, vfr] w fun e w' => e = .returned (.int .u8 (C.moveF fr s)) /\ Below w.heap.size w w' := by
 have HW := zh (fun (r : Nat) (hr : r < C.L.rts.length) (wz : World) (hz : Below w.heap.size w wz) => z35 g C r s wz (h.below hz) hr)
 obtain ⟨vh, vr, vt, vl, vw, vf, vd, va, vq, hB, -, -, -, hL, hWa, hF, -⟩ := h
 obtain ⟨vo, vp, rfl, hO, hP⟩ := hfr
 obtain ⟨al, cl, rfl, -, hml, l3⟩ := SlAt.open hL
 obtain ⟨ao, co, rfl, -, hmo, o3⟩ := SlAt.open hO
 obtain ⟨ap, cp, rfl, -, hmp, p3⟩ := SlAt.open hP
 obtain ⟨aw, cw, rfl, -, hmw, w3⟩ := SlAt.open hWa
 obtain ⟨af, cf, rfl, -, hmf, f3⟩ := SlAt.open hF
 obtain ⟨⟨-, -, -, q6, q7, q8, -⟩, -, qg⟩ := box12 hB
 have hso : s < fr.occ.length := by omega
 have hsp : s < fr.rep.length := by omega
 have hsf : s < C.failed.length := by omega
 have hsw : s < C.wanted.length := by omega
 have HK := zh (show ∀ k (h : k < C.lines.length), C.moveB fr s k = (C.lines[k].ph == 119 && C.L.wantsF k s != 0 && !fr.occ[s] && !C.failed[s] && fr.rep[s] != C.wanted[s]) by
  intro k h
  have h1 : C.line k = C.lines[k] := z0b _ _ _ h
  unfold RBx.moveB
  rw [h1, z0b _ _ _ hso, z0b _ _ _ hsf, z0b _ _ _ hsp, z0b _ _ _ hsw])
 obtain ⟨Z, hZ⟩ : ∃ Z, Z = C.moveF fr s := ⟨_, rfl⟩
 rw [<- hZ]
 unfold RBx.moveF at hZ
 rw [z0b _ _ _ hsw] at hZ
 have HZ2 := zh hZ
 obtain ⟨go, oo, rfl, hgo, cso, -, hCo, hco⟩ := o3 s hso
 obtain ⟨gp, op, rfl, hgp, csp, -, hCp, hcp⟩ := p3 s hsp
 obtain ⟨gw, ow, rfl, hgw, csw, -, hCw, hcw⟩ := w3 s hsw
 obtain ⟨gf, of, rfl, hgf, csf, -, hCf, hcf⟩ := f3 s hsf
 unfold CBool at hCo hCf
 unfold CByte at hCw hCp
 subst hCo hCw hCf hCp
 have o0 := hco 0 (by omega)
 have w0 := hcw 0 (by omega)
 have f0 := hcf 0 (by omega)
 have p0 := hcp 0 (by omega)
 simp at o0 w0 f0 p0
 have e2 : (s : Int) < fr.occ.length := by omega
 have e3 : (s : Int) < C.failed.length := by omega
 have e4 : (s : Int) < C.wanted.length := by omega
 have e5 : (s : Int) < fr.rep.length := by omega
 clear hZ o3 p3 w3 f3 hL hO hP hWa hF hB hco hcp hcw hcf hol hpl hfl hwl
 generalize fr.occ[s] = oc1 at *
 generalize C.failed[s] = fa1 at *
 generalize C.wanted[s] = wa1 at *
 generalize fr.rep[s] = re1 at *
 generalize C.moveB fr s = f at *
 generalize C.lines = ls at *
 generalize C.L.rts.length = nr at *
 generalize fr.occ.length = no at *
 generalize C.failed.length = nf at *
 generalize C.wanted.length = nw at *
 generalize fr.rep.length = np at *
 generalize hwq : (fun k => C.L.wantsF k s) = wq at *
 have hwq' : ∀ k, C.L.wantsF k s = wq k := fun k => by rw [<- hwq]
 simp only [hwq'] at HW HK
 clear hwq hwq'
 unfold maxLen at hml hmo hmp hmw hmf
 have Q6 := zh q6
 go_enter Tryz.func103, Tryz.ntmps103
 go_wp2
 go_loopw [7] (fun i wr => ∃ k : Nat, k <= ls.length /\ i = .int .i64 k /\ (∀ j, j < k -> f j = false) /\ Below (w.heap.size + 1) (w.alloc (.cells #[.slice (some ⟨go, oo, none⟩) no co, .slice (some ⟨gp, op, none⟩) np cp, .string fr.cmds] 163)) wr) (fun i _ => ls.length - (intOf i).toNat)
 case atStart => exact ⟨0, Nat.zero_le _, rfl, fun j h => by omega, Below.refl _ _⟩
 case round =>
  obtain ⟨k, hk, rfl, hno, hb⟩ := hrel
  have HNO := zh hno
  have HB := zh hb
  have hbw := z05 hb
  have HBW := zh hbw
  obtain ⟨z0, z1, z2, qz⟩ := box3 hb
  rw [<- hbw.cell (p := ⟨g, _, none⟩) qg] at q6
  clear hno
  by_cases hlt : k < ls.length
  ·obtain ⟨gl, ol, hal, hgl, csl, -, hCl, hcl⟩ := l3 k hlt
   subst hal
   obtain ⟨vm, hcs, -⟩ := hCl
   subst hcs
   have c0 := hcl 0 (by omega)
   simp at c0
   have HF := zh (uh HK k hlt)
   have e1 : (k : Int) < ls.length := by omega
   have HNN := zh (show f k = false -> ∀ j, j < k + 1 -> f j = false by
    intro h j hj
    by_cases hj' : j < k
    ·exact uh HNO j hj'
    ·obtain rfl : j = k := by omega
     exact h)
   have HWK := zh (uh HW k (by omega))
   clear hcl l3 hb hbw
   generalize ls[k].ph = ph at *
   go_wp2_with fail
   refine (uh HWK _ (uh HBW)).mono ?_
   rintro e w2 ⟨rfl, hb2⟩
   have hb3 := (uh HB).trans (hb2.mono (B' := w.heap.size + 1) (by omega))
   have HB3 := zh hb3
   clear z0 z1 z2
   obtain ⟨z0, z1, z2, qz3⟩ := box3 hb3
   have hbw3 := z05 hb3
   have HBW3 := zh hbw3
   clear q6
   have q6 := uh Q6
   rw [<- hbw3.cell (p := ⟨g, _, none⟩) qg] at q6 q7 q8
   rw [<- hbw3.cell (p := ⟨go, _, none⟩) hgo] at o0
   rw [<- hbw3.cell (p := ⟨gp, _, none⟩) hgp] at p0
   rw [<- hbw3.cell (p := ⟨gw, _, none⟩) hgw] at w0
   rw [<- hbw3.cell (p := ⟨gf, _, none⟩) hgf] at f0
   rw [<- hbw3.cell (p := ⟨gl, _, none⟩) hgl] at c0
   clear hb2 hb3 hbw3 Q6 HW HWK HB HBW
   generalize wq k = x at *
   by_cases hph : ph = 119
   rotate_left
   ·have b1 : ((ph : Int) == 119) = false := by simp; omega
    have HN2 := zh (uh HNN (by rw [uh HF]; simp [hph]))
    go_wp2
    go_quiet (fail)
    go_wp2
    exact ⟨⟨k + 1, by omega, by go_num, uh HN2, below_drewN (uh HB3) _⟩, by simp [intOf]; omega⟩
   have b1 : ((ph : Int) == 119) = true := by simp [hph]
   by_cases hx : x = 0
   ·have b2 : ((x : Int) != 0) = false := by simp [hx]
    have HN2 := zh (uh HNN (by rw [uh HF]; simp [hx]))
    go_wp2
    go_quiet (fail)
    go_wp2
    exact ⟨⟨k + 1, by omega, by go_num, uh HN2, below_drewN (uh HB3) _⟩, by simp [intOf]; omega⟩
   have b2 : ((x : Int) != 0) = true := by simp; omega
   cases oc1 with
   | true =>
    have HN2 := zh (uh HNN (by rw [uh HF]; simp))
    go_wp2
    go_quiet (fail)
    go_wp2
    exact ⟨⟨k + 1, by omega, by go_num, uh HN2, below_drewN (uh HB3) _⟩, by simp [intOf]; omega⟩
   | false =>
    cases fa1 with
    | true =>
     have HN2 := zh (uh HNN (by rw [uh HF]; simp))
     go_wp2
     go_quiet (fail)
     go_wp2
     exact ⟨⟨k + 1, by omega, by go_num, uh HN2, below_drewN (uh HB3) _⟩, by simp [intOf]; omega⟩
    | false =>
     by_cases hrw : re1 = wa1
     ·have b3 : ((re1 : Int) != wa1) = false := by simp [hrw]
      have HN2 := zh (uh HNN (by rw [uh HF]; simp [hrw]))
      go_wp2
      go_quiet (fail)
      go_wp2
      exact ⟨⟨k + 1, by omega, by go_num, uh HN2, below_drewN (uh HB3) _⟩, by simp [intOf]; omega⟩
     ·have b3 : ((re1 : Int) != wa1) = true := by simp; omega
      have HZ3 := zh (show Z = wa1 by rw [uh HZ2, any_rt hlt (by rw [uh HF]; simp [hph, hx, hrw])]; rfl)
      go_wp2
      go_quiet (fail)
      go_wp2
      go_ret
      exact ⟨z11 (by rw [uh HZ3]), below_drewN (uh HBW3) _⟩
  ·obtain rfl : k = ls.length := by omega
   have HZ3 := zh (show Z = 46 by rw [uh HZ2, z1q (uh HNO)]; rfl)
   clear l3 hb hbw
   go_wp2
   go_ret
   exact ⟨by rw [uh HZ3]; rfl, uh HBW⟩
def numF (x c n : Nat) : Option Nat := if c <= x /\ x < c + n then some (x - c) else none
set_option maxHeartbeats 400000 in
theorem rnumber_any (x c n : Nat) (w : World) (hx : x < 256) (hc : c < 256) :
  Calls Tryz.prog 181 #[.int .u8 x, .int .u8 c, .int .i64 n] w fun e w' => e = .returned (.int .i64 (optI (numF x c n))) /\ w' = w := by
 obtain ⟨Z, hZ⟩ : ∃ Z, Z = optI (numF x c n) := ⟨_, rfl⟩
 rw [<- hZ]
 have HZ := zh hZ
 clear hZ
 have u1 : IntKind.i64.wrap (x : Int) = x := Go.IntWalk.i64_in _ (by omega)
 have u2 : IntKind.i64.wrap (c : Int) = c := Go.IntWalk.i64_in _ (by omega)
 have u3 : IntKind.i64.wrap ((x : Int) - c) = (x : Int) - c := Go.IntWalk.i64_in _ (by omega)
 by_cases h1 : c <= x
 ·have b1 : ¬ ((x : Int) - c < 0) := by omega
  by_cases h2 : x < c + n
  ·have b2 : decide ((n : Int) <= (x : Int) - c) = false := by simp; omega
   have HZ2 := zh (show Z = (x : Int) - c by rw [uh HZ, numF, if_pos ⟨h1, h2⟩]; show ((x - c : Nat) : Int) = _; omega)
   go_enter Tryz.func181, Tryz.ntmps181
   go_wp2
   go_ret
   exact ⟨z11 (uh HZ2).symm, rfl⟩
  ·have b2 : decide ((n : Int) <= (x : Int) - c) = true := by simp; omega
   have HZ2 := zh (show Z = -1 by rw [uh HZ, numF, if_neg (fun h => h2 h.2)]; rfl)
   go_enter Tryz.func181, Tryz.ntmps181
   go_wp2
   go_ret
   exact ⟨z11 (uh HZ2).symm, rfl⟩
 ·have b1 : ((x : Int) - c < 0) := by omega
  have HZ2 := zh (show Z = -1 by rw [uh HZ, numF, if_neg (fun h => h1 h.1)]; rfl)
  go_enter Tryz.func181, Tryz.ntmps181
  go_wp2
  go_ret
  exact ⟨z11 (uh HZ2).symm, rfl⟩
def Lay.cmdB (L : Lay) (c x : Nat) : Bool :=
 if c = 114 then (numF x 49 L.tns.length).isSome else if c = 99 then (numF x 65 L.rts.length).isSome
 else if c = 109 then (match numF x 97 L.sw.length with | some s => L.sw.getD s false | none => false) else false
theorem optI_dec (o : Option Nat) : decide ((0 : Int) <= optI o) = o.isSome := by cases o <;> simp [optI]
theorem numF_lt {x c n s : Nat} (h : numF x c n = some s) : s < n := by
 unfold numF at h
 split at h
 ·simp only [Option.some.injEq] at h; omega
 ·cases h
set_option maxHeartbeats 1000000 in
theorem rcommand_any (g : Nat) (C : RBx) (c x : Nat) (w : World) (h : RBoxAt w g C) (_hc : c < 256) (hx : x < 256) :
  Calls Tryz.prog 142 #[.pointer (some ⟨g, 0, none⟩), .int .u8 c, .int .u8 x] w fun e w' => e = .returned (.bool (C.L.cmdB c x)) /\ w' = w := by
 have H1 := zh (fun (w : World) => rnumber_any x 49 C.L.tns.length w hx (by omega))
 have H2 := zh (fun (w : World) => rnumber_any x 65 C.L.rts.length w hx (by omega))
 have H3 := zh (fun (w : World) => rnumber_any x 97 C.L.sw.length w hx (by omega))
 obtain ⟨vh, vr, vt, vl, vw, vf, vd, va, vq, hB, hH, hR, hT, -⟩ := h
 obtain ⟨ah, ch, rfl, -, hmh, h3⟩ := SlAt.open hH
 obtain ⟨ar, cr, rfl, -⟩ := SlAt.open hR
 obtain ⟨at_, ct, rfl, -⟩ := SlAt.open hT
 obtain ⟨⟨q3, q4, q5, -⟩, -, qg⟩ := box12 hB
 unfold maxLen at hmh
 obtain ⟨Z, hZ⟩ : ∃ Z, Z = C.L.cmdB c x := ⟨_, rfl⟩
 rw [<- hZ]
 unfold Lay.cmdB at hZ
 have HLT := zh (fun s => @numF_lt x 97 C.L.sw.length s)
 have o1 := optI_dec (numF x 49 C.L.tns.length)
 have o2 := optI_dec (numF x 65 C.L.rts.length)
 have o3 := optI_dec (numF x 97 C.L.sw.length)
 have HSW := zh (fun k (h : k < C.L.sw.length) => z0b C.L.sw k false h)
 generalize numF x 49 C.L.tns.length = m1 at *
 generalize numF x 65 C.L.rts.length = m2 at *
 generalize numF x 97 C.L.sw.length = m3 at *
 generalize C.L.sw = sw at *
 clear hH hR hT hB
 by_cases h1 : c = 114
 ·rw [if_pos h1] at hZ
  have HZ := zh hZ
  have b1 : ((c : Int) == 114) = true := by simp [h1]
  clear hZ h1 h3
  go_enter Tryz.func142, Tryz.ntmps142
  go_wp2_with (go_at_call 181; refine (uh H1 _).mono ?_; rintro e w' ⟨rfl, rfl⟩)
  go_ret
  exact ⟨z04 (by rw [uh HZ]), rfl⟩
 ·rw [if_neg h1] at hZ
  have b1 : ((c : Int) == 114) = false := by simp; omega
  by_cases h2 : c = 99
  ·rw [if_pos h2] at hZ
   have HZ := zh hZ
   have b2 : ((c : Int) == 99) = true := by simp [h2]
   clear hZ h1 h2 h3
   go_enter Tryz.func142, Tryz.ntmps142
   go_wp2_with (go_at_call 181; refine (uh H2 _).mono ?_; rintro e w' ⟨rfl, rfl⟩)
   go_ret
   exact ⟨z04 (by rw [uh HZ]), rfl⟩
  ·rw [if_neg h2] at hZ
   have b2 : ((c : Int) == 99) = false := by simp; omega
   by_cases h4 : c = 109
   ·rw [if_pos h4] at hZ
    have b3 : ((c : Int) == 109) = true := by simp [h4]
    clear h1 h2 h4
    cases m3 with
    | none =>
     have HZ := zh (show Z = false from hZ)
     clear hZ h3
     simp only [optI] at H3 o3
     go_enter Tryz.func142, Tryz.ntmps142
     go_wp2_with (go_at_call 181; refine (uh H3 _).mono ?_; rintro e w' ⟨rfl, rfl⟩)
     go_ret
     exact ⟨z04 (uh HZ).symm, rfl⟩
    | some k =>
     have hk := uh HLT k rfl
     have HZ := zh (show Z = sw[k] by rw [<- uh HSW k hk]; exact hZ)
     obtain ⟨gh, oh, rfl, hgh, cs, -, hC, hc⟩ := h3 k hk
     unfold CBool at hC
     subst hC
     have c0 := hc 0 (by omega)
     simp at c0
     have e1 : (k : Int) < sw.length := by omega
     have e2 : (0 : Int) <= k := by omega
     clear hZ h3 hc HLT HSW
     simp only [optI] at H3 o3
     generalize sw[k] = b at *
     go_enter Tryz.func142, Tryz.ntmps142
     go_wp2_with (go_at_call 181; refine (uh H3 _).mono ?_; rintro e w' ⟨rfl, rfl⟩)
     go_ret
     exact ⟨z04 (uh HZ).symm, rfl⟩
   ·rw [if_neg h4] at hZ
    have HZ := zh hZ
    have b3 : ((c : Int) == 109) = false := by simp; omega
    clear hZ h1 h2 h4 h3
    go_enter Tryz.func142, Tryz.ntmps142
    go_wp2
    go_ret
    exact ⟨z04 (uh HZ).symm, rfl⟩
end Go.Proofs.YtkbpocecbcaiiaaGreatDoor
