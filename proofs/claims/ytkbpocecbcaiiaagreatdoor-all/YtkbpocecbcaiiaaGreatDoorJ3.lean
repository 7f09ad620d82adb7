import Derived.Test.YtkbpocecbcaiiaaGreatDoorJ2
namespace Go.Proofs.YtkbpocecbcaiiaaGreatDoor
open Go.RowKit
def z30 (l : List (Nat × Nat)) (s : Nat) : Option Nat := (l.find? (fun x => x.1 == s)).map (·.2)
def Lay.wantsF (L : Lay) (r s : Nat) : Nat := match z30 (L.rt r).path s with
 | some x => x
 | none => (z30 (L.rt r).flank s).getD 0
theorem signOf_none (l : List (Nat × Nat)) (s : Nat) (h : ∀ j (hj : j < l.length), l[j].1 ≠ s) : z30 l s = none := by
 unfold z30
 rw [List.find?_eq_none.2, Option.map_none]
 intro x hx
 obtain ⟨j, hj, rfl⟩ := List.getElem_of_mem hx
 simpa using h j hj
theorem signOf_some (l : List (Nat × Nat)) (s k : Nat) (hk : k < l.length) (h : ∀ j (hj : j < l.length), j < k -> l[j].1 ≠ s) (he : l[k].1 = s) : z30 l s = some l[k].2 := by
 unfold z30
 have : l.find? (fun x => x.1 == s) = some l[k] := by
  rw [List.find?_eq_some_iff_getElem]
  refine ⟨by simpa using he, k, hk, rfl, fun j hj => ?_⟩
  simpa using h j (by omega) hj
 rw [this]; rfl
theorem secs_get (l : List (Nat × Nat)) (k : Nat) (h : k < l.length) (h' : k < (secs l).length) : (secs l)[k] = l[k].1 := by simp [secs]
theorem signs_get (l : List (Nat × Nat)) (k : Nat) (h : k < l.length) (h' : k < (signs l).length) : (signs l)[k] = l[k].2 := by simp [signs]
set_option maxHeartbeats 1000000 in
theorem z35 (g : Nat) (C : RBx) (r s : Nat) (w : World) (h : RBoxAt w g C) (hr : r < C.L.rts.length) :
  Calls Tryz.prog 152 #[.pointer (some ⟨g, 0, none⟩), .int .i64 r, .int .i64 s] w fun e w' => e = .returned (.int .u8 (C.L.wantsF r s)) /\ Below w.heap.size w w' := by
 obtain ⟨vh, vr, vt, vl, vw, vf, vd, va, vq, hB, -, hR, -⟩ := h
 obtain ⟨ar, cr, rfl, -, hmr, r3⟩ := SlAt.open hR
 obtain ⟨⟨-, q4, -⟩, -, qg⟩ := box12 hB
 unfold Lay.wantsF
 rw [rt_eq C.L r hr]
 obtain ⟨gr, or_, rfl, hgr, cs, -, hC, hc⟩ := r3 r hr
 obtain ⟨vp, vs, vfl, vg, rfl, hP, hS, hFl, hLi⟩ := hC
 have c0 := hc 0 (by omega)
 have c1 := hc 1 (by omega)
 have c2 := hc 2 (by omega)
 have c3 := hc 3 (by omega)
 have c4 := hc 4 (by omega)
 simp at c0 c1 c2 c3 c4
 have l1 : (r : Int) < C.L.rts.length := by omega
 have l0 : (0 : Int) <= r := by omega
 unfold maxLen at hmr
 generalize C.L.rts[r] = R at *
 obtain ⟨ap, cp, hv1, hp1, hp2, p3⟩ := SlAt.open hP
 obtain ⟨as_, cs_, hv2, -, hs2, s3⟩ := SlAt.open hS
 obtain ⟨af, cf, hv3, hf1, hf2, f3⟩ := SlAt.open hFl
 obtain ⟨al, cl, hv4, -, hl2, l3⟩ := SlAt.open hLi
 rw [z1o] at hv1 hv3 hp1 hf1
 rw [z2l] at hv2 hv4
 subst hv1 hv2 hv3 hv4
 unfold maxLen at hp2 hs2 hf2 hl2
 obtain ⟨Z, hZ⟩ : ∃ Z, Z = (match z30 R.path s with | some x => x | none => (z30 R.flank s).getD 0) := ⟨_, rfl⟩
 rw [<- hZ]
 have HZ := zh hZ
 clear hR hB r3 hc hP hS hFl hLi hZ
 go_enter Tryz.func152, Tryz.ntmps152
 go_wp2
 go_loopw [8] (fun i wr => ∃ k : Nat, i = .int .i64 k /\ k <= R.path.length /\ (∀ j (hj : j < R.path.length), j < k -> R.path[j].1 ≠ s) /\ Below (w.heap.size + 1) (w.alloc (rrtBox R (.slice ap R.path.length cp) (.slice as_ R.path.length cs_) (.slice af R.flank.length cf) (.slice al R.flank.length cl))) wr) (fun i _ => R.path.length - (intOf i).toNat)
 case atStart => exact ⟨0, rfl, Nat.zero_le _, fun j _ h => by omega, Below.refl _ _⟩
 case round =>
  obtain ⟨k, rfl, hk, hno, hb⟩ := hrel
  have HNO := zh hno
  obtain ⟨⟨z0, z1, z2, z3, z4⟩, -, qz⟩ := five hb
  have hbw := z05 hb
  have HBW := zh hbw
  have HB := zh hb
  clear hno hb
  by_cases hlt : k < R.path.length
  ·obtain ⟨gp, op, hap, hgp, csp, -, hCp, hcp⟩ := p3 k (by rw [z1o]; omega)
   obtain ⟨gs, os, has, hgs, css, -, hCs, hcs⟩ := s3 k (by rw [z2l]; omega)
   subst hap has
   unfold CInt at hCp
   unfold CByte at hCs
   subst hCp hCs
   have x0 := hcp 0 (by omega)
   have y0 := hcs 0 (by omega)
   rw [<- hbw.cell (p := ⟨gp, _, none⟩) hgp, secs_get _ _ hlt] at x0
   rw [<- hbw.cell (p := ⟨gs, _, none⟩) hgs, signs_get _ _ hlt] at y0
   simp at x0 y0
   have k0 : (k : Int) < R.path.length := by omega
   have HFD := zh (show R.path[k].1 = s -> Z = R.path[k].2 by
    intro he
    rw [uh HZ, signOf_some R.path s k hlt (uh HNO) he])
   have HNN := zh (show R.path[k].1 ≠ s -> ∀ j (hj : j < R.path.length), j < k + 1 -> R.path[j].1 ≠ s by
    intro hne j hj h
    by_cases hj' : j < k
    ·exact uh HNO j hj hj'
    ·obtain rfl : j = k := by omega
     exact hne)
   clear hcp hcs p3 s3 hbw f3 l3
   generalize R.path[k].1 = x at *
   generalize R.path[k].2 = y at *
   by_cases hxs : x = s
   ·have b2 : ((x : Int) == s) = true := by simp [hxs]
    have HZ2 := zh (uh HFD hxs)
    go_wp2
    go_ret
    exact ⟨z11 (by rw [uh HZ2]), uh HBW⟩
   ·have b2 : ((x : Int) == s) = false := by simp; omega
    go_wp2
    exact ⟨⟨k + 1, by go_num, by omega, uh HNN hxs, uh HB⟩, by simp [intOf]; omega⟩
  ·have HZ1 := zh (show Z = (z30 R.flank s).getD 0 by
    rw [uh HZ, signOf_none R.path s (fun j hj => uh HNO j hj (by omega))])
   have k0 : (R.path.length : Int) <= k := by omega
   clear p3 s3 hbw HZ HNO
   go_wp2
   go_loopw [9] (fun i wx => ∃ k : Nat, i = .int .i64 k /\ k <= R.flank.length /\ (∀ j (hj : j < R.flank.length), j < k -> R.flank[j].1 ≠ s) /\ Below (w.heap.size + 1) (w.alloc (rrtBox R (.slice ap R.path.length cp) (.slice as_ R.path.length cs_) (.slice af R.flank.length cf) (.slice al R.flank.length cl))) wx) (fun i _ => R.flank.length - (intOf i).toNat)
   case atStart => exact ⟨0, rfl, Nat.zero_le _, fun j _ h => by omega, uh HB⟩
   case round =>
    clear z0 z1 z2 z3 z4 qz HBW HB hk hlt k0
    obtain ⟨k, rfl, hk, hno, hb⟩ := hrel
    have HNO := zh hno
    obtain ⟨⟨z0, z1, z2, z3, z4⟩, -, qz⟩ := five hb
    have hbw := z05 hb
    have HBW := zh hbw
    have HB := zh hb
    clear hno hb
    by_cases hlt : k < R.flank.length
    ·obtain ⟨gp, op, hap, hgp, csp, -, hCp, hcp⟩ := f3 k (by rw [z1o]; omega)
     obtain ⟨gs, os, has, hgs, css, -, hCs, hcs⟩ := l3 k (by rw [z2l]; omega)
     subst hap has
     unfold CInt at hCp
     unfold CByte at hCs
     subst hCp hCs
     have x0 := hcp 0 (by omega)
     have y0 := hcs 0 (by omega)
     rw [<- hbw.cell (p := ⟨gp, _, none⟩) hgp, secs_get _ _ hlt] at x0
     rw [<- hbw.cell (p := ⟨gs, _, none⟩) hgs, signs_get _ _ hlt] at y0
     simp at x0 y0
     have k0 : (k : Int) < R.flank.length := by omega
     have HFD := zh (show R.flank[k].1 = s -> Z = R.flank[k].2 by
      intro he
      rw [uh HZ1, signOf_some R.flank s k hlt (uh HNO) he]; rfl)
     have HNN := zh (show R.flank[k].1 ≠ s -> ∀ j (hj : j < R.flank.length), j < k + 1 -> R.flank[j].1 ≠ s by
      intro hne j hj h
      by_cases hj' : j < k
      ·exact uh HNO j hj hj'
      ·obtain rfl : j = k := by omega
       exact hne)
     clear hcp hcs f3 l3 hbw
     generalize R.flank[k].1 = x at *
     generalize R.flank[k].2 = y at *
     by_cases hxs : x = s
     ·have b2 : ((x : Int) == s) = true := by simp [hxs]
      have HZ2 := zh (uh HFD hxs)
      go_wp2
      go_ret
      exact ⟨z11 (by rw [uh HZ2]), uh HBW⟩
     ·have b2 : ((x : Int) == s) = false := by simp; omega
      go_wp2
      exact ⟨⟨k + 1, by go_num, by omega, uh HNN hxs, uh HB⟩, by simp [intOf]; omega⟩
    ·have HZ2 := zh (show Z = 0 by
      rw [uh HZ1, signOf_none R.flank s (fun j hj => uh HNO j hj (by omega))]; rfl)
     have k0 : (R.flank.length : Int) <= k := by omega
     clear f3 l3 hbw
     go_wp2
     go_ret
     exact ⟨z11 (by rw [uh HZ2]; rfl), uh HBW⟩
def RBx.flankB (C : RBx) (s r : Nat) : Bool := (C.line r).ph != 46 && has (C.L.rt r).flank s
def RBx.heldB (C : RBx) (s : Nat) : Bool := (C.lockedBy s).isSome || (List.range C.lines.length).any (C.flankB s)
theorem any_rt {f : Nat -> Bool} {n k : Nat} (hk : k < n) (h : f k = true) : (List.range n).any f = true := List.any_eq_true.2 ⟨k, List.mem_range.2 hk, h⟩
theorem z1q {f : Nat -> Bool} {n : Nat} (h : ∀ j, j < n -> f j = false) : (List.range n).any f = false := by
 rw [List.any_eq_false]; intro j hj; rw [h j (List.mem_range.1 hj)]; simp
set_option maxHeartbeats 1000000 in
theorem rheld_any (g : Nat) (C : RBx) (s : Nat) (w : World) (h : RBoxAt w g C) (hl : C.lines.length <= C.L.rts.length) (hr : C.L.rts.length <= 1000) (hgo : ∀ x, x ∈ C.lines -> x.gone <= 1000) :
  Calls Tryz.prog 143 #[.pointer (some ⟨g, 0, none⟩), .int .i64 s] w fun e w' => e = .returned (.bool (C.heldB s)) /\ w' = w := by
 have HLK := zh (rlocked_any g C s w h hl hr hgo)
 obtain ⟨vh, vr, vt, vl, vw, vf, vd, va, vq, hB, -, hR, -, hL, -⟩ := h
 obtain ⟨ar, cr, rfl, -, hmr, r3⟩ := SlAt.open hR
 obtain ⟨al, cl, rfl, -, hml, l3⟩ := SlAt.open hL
 obtain ⟨⟨-, q4, -, q6, -⟩, -, qg⟩ := box12 hB
 have HK := zh (show ∀ k (h : k < C.lines.length) (hr : k < C.L.rts.length), C.flankB s k = (C.lines[k].ph != 46 && has C.L.rts[k].flank s) by
  intro k h hr
  have h1 : C.line k = C.lines[k] := by unfold RBx.line; rw [List.getD_eq_getElem?_getD, List.getElem?_eq_getElem h]; rfl
  unfold RBx.flankB
  rw [h1, rt_eq C.L k hr])
 unfold RBx.heldB
 generalize C.flankB s = f at *
 generalize C.lockedBy s = o at *
 generalize C.lines = ls at *
 generalize C.L.rts = rs at *
 unfold maxLen at hmr hml
 obtain ⟨Z, hZ⟩ : ∃ Z, Z = (o.isSome || (List.range ls.length).any f) := ⟨_, rfl⟩
 rw [<- hZ]
 have HZ := zh hZ
 clear hR hL hB hZ hgo
 go_enter Tryz.func143, Tryz.ntmps143
 go_wp2_with fail
 refine (uh HLK).mono ?_
 rintro e w1 ⟨rfl, rfl⟩
 clear HLK
 cases o with
 | some r =>
  have HZ2 := zh (show Z = true from uh HZ)
  have b0 : (0 : Int) <= r := by omega
  simp only [optI]
  go_wp2
  go_ret
  exact ⟨z04 (uh HZ2).symm, rfl⟩
 | none =>
  have HZ2 := zh (show Z = (List.range ls.length).any f from uh HZ)
  simp only [optI]
  clear HZ
  go_wp2
  go_loopw [6] (fun i wr => ∃ k : Nat, k <= ls.length /\ i = .int .i64 k /\ (∀ j, j < k -> f j = false) /\ wr = w1) (fun i _ => ls.length - (intOf i).toNat)
  case atStart => exact ⟨0, Nat.zero_le _, rfl, fun j h => by omega, rfl⟩
  case round =>
   obtain ⟨k, hk, rfl, hno, rfl⟩ := hrel
   have HNO := zh hno
   clear hno
   by_cases hlt : k < ls.length
   ·obtain ⟨gl, ol, hal, hgl, cs, -, hC, hc⟩ := l3 k hlt
    have hkr : k < rs.length := by omega
    obtain ⟨gr, or_, har, hgr, csr, -, hCr, hcr⟩ := r3 k hkr
    subst hal har
    obtain ⟨vm, hcs, -⟩ := hC
    obtain ⟨vp, vs, vfl, vg, hcsr, -, -, hFl, -⟩ := hCr
    subst hcs hcsr
    have c0 := hc 0 (by omega)
    have d3 := hcr 3 (by omega)
    simp at c0 d3
    have HFl := zh hFl
    obtain ⟨ap, cp, rfl, -, hmp, -⟩ := SlAt.open hFl
    have HF := zh (uh HK k hlt hkr)
    have HT := zh (z3o rs[k].flank s)
    have e1 : (k : Int) < ls.length := by omega
    have e2 : (k : Int) < rs.length := by omega
    clear hc hcr hFl r3 l3
    generalize ls[k].ph = ph at *
    have HNN := zh (show f k = false -> ∀ j, j < k + 1 -> f j = false by
     intro h j hj
     by_cases hj' : j < k
     ·exact uh HNO j hj'
     ·obtain rfl : j = k := by omega
      exact h)
    by_cases hph : ph = 46
    ·have b1 : ((ph : Int) != 46) = false := by simp [hph]
     go_wp2_with (go_at_call 155; refine (z0m _ _ _ _ (uh HFl)).mono ?_; rintro e w' ⟨rfl, rfl⟩)
     exact ⟨⟨k + 1, by omega, by go_num, uh HNN (by rw [uh HF]; simp [hph]), by trivial⟩, by simp [intOf]; omega⟩
    ·have b1 : ((ph : Int) != 46) = true := by simp; omega
     go_wp2_with (go_at_call 155; refine (z0m _ _ _ _ (uh HFl)).mono ?_; rintro e w' ⟨rfl, rfl⟩)
     ·have ht : 0 < z1b (secs rs[k].flank) s := by assumption
      have HZ3 := zh (show Z = true by
       rw [uh HZ2]
       exact any_rt hlt (by rw [uh HF, <- uh HT]; simp [hph, ht]))
      go_ret
      exact ⟨z04 (uh HZ3).symm, rfl⟩
     ·have ht : z1b (secs rs[k].flank) s <= 0 := by assumption
      exact ⟨⟨k + 1, by omega, by go_num, uh HNN (by rw [uh HF, <- uh HT, show decide (0 < z1b (secs rs[k].flank) ↑s) = false from decide_eq_false (by omega)]; simp), by trivial⟩, by simp [intOf]; omega⟩
   ·obtain rfl : k = ls.length := by omega
    have HZ3 := zh (show Z = false by rw [uh HZ2]; exact z1q (uh HNO))
    clear r3 l3
    go_wp2
    go_ret
    exact ⟨z04 (uh HZ3).symm, rfl⟩
structure Fr where
 occ : List Bool
 rep : List Nat
 cmds : ByteArray
def FrAt (w : World) (v : Value) (f : Fr) : Prop := ∃ vo vp, v = .agg #[vo, vp, .string f.cmds] /\ Bools w vo f.occ /\ Byts w vp f.rep
theorem FrAt.below {w w' : World} {v : Value} {f : Fr} (h : FrAt w v f) (k : Below w.heap.size w w') : FrAt w' v f := by
 obtain ⟨vo, vp, e, a, b⟩ := h
 exact ⟨vo, vp, e, a.keep (.below k), b.keep (.below k)⟩
theorem box3 {w wr : World} {c0 c1 c2 : Value} {t : TypeId} (hb : Below (w.heap.size + 1) (w.alloc (.cells #[c0, c1, c2] t)) wr) :
  wr.cell? ⟨w.heap.size, 0, none⟩ = some c0 /\ wr.cell? ⟨w.heap.size, 1, none⟩ = some c1 /\ wr.cell? ⟨w.heap.size, 2, none⟩ = some c2 /\ w.heap.size < wr.heap.size :=
 ⟨z0j hb 0, z0j hb 1, z0j hb 2, z33 hb⟩
def busyF (p : List Nat) (f : Fr) : Bool := p.any (fun s => f.occ.getD s false)
theorem z0b {α : Type} (l : List α) (k : Nat) (d : α) (h : k < l.length) : l.getD k d = l[k] := by
 rw [List.getD_eq_getElem?_getD, List.getElem?_eq_getElem h]; rfl
theorem any_at {α : Type} {p : α -> Bool} {l : List α} {k : Nat} (hk : k < l.length) (h : p l[k] = true) : l.any p = true := List.any_eq_true.2 ⟨_, List.getElem_mem hk, h⟩
theorem any_none {α : Type} {p : α -> Bool} {l : List α} (h : ∀ j (hj : j < l.length), p l[j] = false) : l.any p = false := by
 rw [List.any_eq_false]
 intro x hx
 obtain ⟨j, hj, rfl⟩ := List.getElem_of_mem hx
 rw [h j hj]; simp
set_option maxHeartbeats 1000000 in
theorem rbusy_any (vp0 vfr : Value) (p : List Nat) (f : Fr) (w : World) (hp : Ints w vp0 p) (hf : FrAt w vfr f) (hlt0 : ∀ s, s ∈ p -> s < f.occ.length) :
  Calls Tryz.prog 144 #[vp0, vfr] w fun e w' => e = .returned (.bool (busyF p f)) /\ Below w.heap.size w w' := by
 obtain ⟨vo, vr, rfl, hO, hR⟩ := hf
 obtain ⟨ap, cp, rfl, hp1, hp2, p3⟩ := SlAt.open hp
 obtain ⟨ao, co, rfl, ho1, ho2, o3⟩ := SlAt.open hO
 obtain ⟨ar, cr, rfl, -⟩ := SlAt.open hR
 unfold maxLen at hp2 ho2
 obtain ⟨Z, hZ⟩ : ∃ Z, Z = busyF p f := ⟨_, rfl⟩
 rw [<- hZ]
 unfold busyF at hZ
 have HZ := zh hZ
 have HL := zh hlt0
 generalize f.occ = oc at *
 clear hZ hlt0 hp hO hR
 go_enter Tryz.func144, Tryz.ntmps144
 go_wp2
 go_loopw [5] (fun i wr => ∃ k : Nat, i = .int .i64 k /\ k <= p.length /\ (∀ j (hj : j < p.length), j < k -> oc.getD p[j] false = false) /\ Below (w.heap.size + 1) (w.alloc (.cells #[.slice ao oc.length co, .slice ar f.rep.length cr, .string f.cmds] 163)) wr) (fun i _ => p.length - (intOf i).toNat)
 case atStart => exact ⟨0, rfl, Nat.zero_le _, fun j _ h => by omega, Below.refl _ _⟩
 case round =>
  obtain ⟨k, rfl, hk, hno, hb⟩ := hrel
  have HNO := zh hno
  obtain ⟨z0, z1, z2, qz⟩ := box3 hb
  have hbw := z05 hb
  have HBW := zh hbw
  have HB := zh hb
  clear hno hb
  by_cases hlt : k < p.length
  ·obtain ⟨gp, op, hap, hgp, csp, -, hCp, hcp⟩ := p3 k hlt
   subst hap
   unfold CInt at hCp
   subst hCp
   have x0 := hcp 0 (by omega)
   rw [<- hbw.cell (p := ⟨gp, _, none⟩) hgp] at x0
   simp at x0
   have hps := uh HL _ (List.getElem_mem hlt)
   obtain ⟨go, oo, hao, hgo, cso, -, hCo, hco⟩ := o3 p[k] hps
   subst hao
   unfold CBool at hCo
   subst hCo
   have y0 := hco 0 (by omega)
   rw [<- hbw.cell (p := ⟨go, _, none⟩) hgo] at y0
   simp at y0
   have HG := zh (z0b oc p[k] false hps)
   have k0 : (k : Int) < p.length := by omega
   have k1 : (p[k] : Int) < oc.length := by omega
   have k2 : (0 : Int) <= p[k] := by omega
   have HFD := zh (show oc[p[k]] = true -> Z = true by
    intro h
    rw [uh HZ]
    exact any_at hlt (by show oc.getD p[k] false = true; rw [uh HG]; exact h))
   have HNN := zh (show oc[p[k]] = false -> ∀ j (hj : j < p.length), j < k + 1 -> oc.getD p[j] false = false by
    intro h j hj hj1
    by_cases hj' : j < k
    ·exact uh HNO j hj hj'
    ·obtain rfl : j = k := by omega
     rw [uh HG]; exact h)
   clear hcp hco p3 o3 hbw HG
   generalize oc[p[k]] = b at *
   generalize p[k] = x at *
   cases b with
   | true =>
    have HZ2 := zh (uh HFD rfl)
    go_wp2
    go_quiet (fail)
    go_wp2
    go_ret
    exact ⟨z04 (uh HZ2).symm, below_drewN (uh HBW) _⟩
   | false =>
    go_wp2
    go_quiet (fail)
    go_wp2
    exact ⟨⟨k + 1, by go_num, by omega, uh HNN (by trivial), below_drewN (uh HB) _⟩, by simp [intOf]; omega⟩
  ·have HZ2 := zh (show Z = false by
    rw [uh HZ]
    exact any_none (fun j hj => uh HNO j hj (by omega)))
   have k0 : (p.length : Int) <= k := by omega
   clear p3 o3 hbw
   go_wp2
   go_ret
   exact ⟨z04 (uh HZ2).symm, uh HBW⟩
def RBx.setB (C : RBx) (t r : Nat) : Bool := (C.line r).ph != 46 && (C.line r).train == t
def RBx.isSet (C : RBx) (t : Nat) : Bool := (List.range C.lines.length).any (C.setB t)
set_option maxHeartbeats 1000000 in
theorem rset_any (g : Nat) (C : RBx) (t : Nat) (w : World) (h : RBoxAt w g C) (hr : C.lines.length <= 1000) :
  Calls Tryz.prog 182 #[.pointer (some ⟨g, 0, none⟩), .int .i64 t] w fun e w' => e = .returned (.bool (C.isSet t)) /\ w' = w := by
 obtain ⟨vh, vr, vt, vl, vw, vf, vd, va, vq, hB, -, -, -, hL, -⟩ := h
 obtain ⟨al, cl, rfl, -, hml, l3⟩ := SlAt.open hL
 obtain ⟨⟨-, -, -, q6, -⟩, -, qg⟩ := box12 hB
 have HK := zh (show ∀ k (h : k < C.lines.length), C.setB t k = (C.lines[k].ph != 46 && C.lines[k].train == t) by
  intro k h
  have h1 : C.line k = C.lines[k] := z0b _ _ _ h
  unfold RBx.setB
  rw [h1])
 unfold RBx.isSet
 generalize C.setB t = f at *
 generalize C.lines = ls at *
 unfold maxLen at hml
 obtain ⟨Z, hZ⟩ : ∃ Z, Z = (List.range ls.length).any f := ⟨_, rfl⟩
 rw [<- hZ]
 have HZ2 := zh hZ
 clear hL hB hZ
 go_enter Tryz.func182, Tryz.ntmps182
 go_wp2
 go_loopw [5] (fun i wr => ∃ k : Nat, k <= ls.length /\ i = .int .i64 k /\ (∀ j, j < k -> f j = false) /\ wr = w) (fun i _ => ls.length - (intOf i).toNat)
 case atStart => exact ⟨0, Nat.zero_le _, rfl, fun j h => by omega, rfl⟩
 case round =>
  obtain ⟨k, hk, rfl, hno, rfl⟩ := hrel
  have HNO := zh hno
  clear hno
  by_cases hlt : k < ls.length
  ·obtain ⟨gl, ol, hal, hgl, cs, -, hC, hc⟩ := l3 k hlt
   subst hal
   obtain ⟨vm, hcs, -⟩ := hC
   subst hcs
   have c0 := hc 0 (by omega)
   have c1 := hc 1 (by omega)
   simp at c0 c1
   have HF := zh (uh HK k hlt)
   have e1 : (k : Int) < ls.length := by omega
   have HNN := zh (show f k = false -> ∀ j, j < k + 1 -> f j = false by
    intro h j hj
    by_cases hj' : j < k
    ·exact uh HNO j hj'
    ·obtain rfl : j = k := by omega
     exact h)
   clear hc l3
   generalize ls[k].ph = ph at *
   generalize ls[k].train = tr at *
   by_cases hph : ph = 46
   ·have b1 : ((ph : Int) != 46) = false := by simp [hph]
    go_wp2
    exact ⟨⟨k + 1, by omega, by go_num, uh HNN (by rw [uh HF]; simp [hph]), by trivial⟩, by simp [intOf]; omega⟩
   ·have b1 : ((ph : Int) != 46) = true := by simp; omega
    by_cases htr : tr = t
    ·have b2 : ((tr : Int) == t) = true := by simp [htr]
     have HZ3 := zh (show Z = true by rw [uh HZ2]; exact any_rt hlt (by rw [uh HF]; simp [hph, htr]))
     go_wp2
     go_ret
     exact ⟨z04 (uh HZ3).symm, rfl⟩
    ·have b2 : ((tr : Int) == t) = false := by simp; omega
     go_wp2
     exact ⟨⟨k + 1, by omega, by go_num, uh HNN (by rw [uh HF]; simp [htr]), by trivial⟩, by simp [intOf]; omega⟩
  ·obtain rfl : k = ls.length := by omega
   have HZ3 := zh (show Z = false by rw [uh HZ2]; exact z1q (uh HNO))
   clear l3
   go_wp2
   go_ret
   exact ⟨z04 (uh HZ3).symm, rfl⟩
def RBx.brokenB (C : RBx) (r s : Nat) : Bool := C.L.wantsF r s != 0 && C.failed.getD s false
def RBx.broken (C : RBx) (r : Nat) : Bool := (List.range C.L.sw.length).any (C.brokenB r)
set_option maxHeartbeats 1000000 in
theorem rbroken_any (g : Nat) (C : RBx) (r : Nat) (w : World) (h : RBoxAt w g C) (hr : r < C.L.rts.length) (hs : C.L.sw.length <= 1000) (hfl : C.failed.length = C.L.sw.length) :
  Calls Tryz.prog 146 #[.pointer (some ⟨g, 0, none⟩), .int .i64 r] w fun e w' => e = .returned (.bool (C.broken r)) /\ Below w.heap.size w w' := by
 have HW := zh (fun (s : Nat) (wz : World) (hz : Below w.heap.size w wz) => z35 g C r s wz (h.below hz) hr)
 obtain ⟨vh, vr, vt, vl, vw, vf, vd, va, vq, hB, hH, -, -, -, -, hF, -⟩ := h
 obtain ⟨ah, ch, rfl, -⟩ := SlAt.open hH
 obtain ⟨af, cf, rfl, -, hm, f3⟩ := SlAt.open hF
 obtain ⟨⟨q3, -, -, -, -, q8, -⟩, -, qg⟩ := box12 hB
 have HK := zh (show ∀ k (h : k < C.failed.length), C.brokenB r k = (C.L.wantsF r k != 0 && C.failed[k]) by
  intro k h
  unfold RBx.brokenB
  rw [z0b _ _ _ h])
 unfold RBx.broken
 generalize C.brokenB r = f at *
 generalize C.failed = fa at *
 generalize C.L.sw.length = n at *
 unfold maxLen at hm
 obtain ⟨Z, hZ⟩ : ∃ Z, Z = (List.range n).any f := ⟨_, rfl⟩
 rw [<- hZ]
 have HZ2 := zh hZ
 clear hH hF hB hZ
 go_enter Tryz.func146, Tryz.ntmps146
 go_wp2
 go_loopw [5] (fun i wr => ∃ k : Nat, k <= n /\ i = .int .i64 k /\ (∀ j, j < k -> f j = false) /\ Below w.heap.size w wr) (fun i _ => n - (intOf i).toNat)
 case atStart => exact ⟨0, Nat.zero_le _, rfl, fun j h => by omega, Below.refl _ _⟩
 case round =>
  obtain ⟨k, hk, rfl, hno, hb⟩ := hrel
  have HNO := zh hno
  have HB := zh hb
  have hbs := hb.size
  rw [<- hb.cell (p := ⟨g, _, none⟩) qg] at q3
  clear hno
  by_cases hlt : k < n
  ·have hkf : k < fa.length := by omega
   obtain ⟨gf, of, haf, hgf, cs, -, hC, hc⟩ := f3 k hkf
   subst haf
   unfold CBool at hC
   subst hC
   have c0 := hc 0 (by omega)
   simp at c0
   have HF := zh (uh HK k hkf)
   have e1 : (k : Int) < n := by omega
   have e2 : (k : Int) < fa.length := by omega
   have HNN := zh (show f k = false -> ∀ j, j < k + 1 -> f j = false by
    intro h j hj
    by_cases hj' : j < k
    ·exact uh HNO j hj'
    ·obtain rfl : j = k := by omega
     exact h)
   clear hc f3 hb
   go_wp2_with fail
   refine (uh HW k wr (uh HB)).mono ?_
   rintro e w1 ⟨rfl, hb1⟩
   have hb2 := (uh HB).trans (hb1.mono hbs)
   have HB2 := zh hb2
   rw [<- hb2.cell (p := ⟨gf, _, none⟩) hgf] at c0
   rw [<- hb2.cell (p := ⟨g, _, none⟩) qg] at q8
   clear hb1 hb2 q3
   generalize C.L.wantsF r k = x at *
   generalize fa[k] = b at *
   by_cases hx : x = 0
   ·have b1 : ((x : Int) != 0) = false := by simp [hx]
    go_wp2
    exact ⟨⟨k + 1, by omega, by go_num, uh HNN (by rw [uh HF]; simp [hx]), uh HB2⟩, by simp [intOf]; omega⟩
   ·have b1 : ((x : Int) != 0) = true := by simp; omega
    cases b with
    | true =>
     have HZ3 := zh (show Z = true by rw [uh HZ2]; exact any_rt hlt (by rw [uh HF]; simp [hx]))
     go_wp2
     go_ret
     exact ⟨z04 (uh HZ3).symm, uh HB2⟩
    | false =>
     go_wp2
     exact ⟨⟨k + 1, by omega, by go_num, uh HNN (by rw [uh HF]; simp), uh HB2⟩, by simp [intOf]; omega⟩
  ·obtain rfl : k = n := by omega
   have HZ3 := zh (show Z = false by rw [uh HZ2]; exact z1q (uh HNO))
   clear f3 hb
   go_wp2
   go_ret
   exact ⟨z04 (uh HZ3).symm, uh HB⟩
end Go.Proofs.YtkbpocecbcaiiaaGreatDoor
