import Derived.Test.YtkbpocecbcaiiaaGreatDoorH2
namespace Go.Proofs.YtkbpocecbcaiiaaGreatDoor
open Go.RowKit
structure Fr where
 occ : List Bool
 rep : List Nat
 cmds : ByteArray
def FrAt (w : World) (v : Value) (f : Fr) : Prop := ∃ vo vp, v = .agg #[vo, vp, .string f.cmds] /\ Bools w vo f.occ /\ Byts w vp f.rep
theorem FrAt.below {w w' : World} {v : Value} {f : Fr} (h : FrAt w v f) (k : Below w.heap.size w w') : FrAt w' v f := by
 obtain ⟨vo, vp, e, a, b⟩ := h
 exact ⟨vo, vp, e, a.keep (.below k), b.keep (.below k)⟩
theorem box3 {w wr : World} {c0 c1 c2 : Value} {t : TypeId} (hb : Below (w.heap.size + 1) (w.alloc (.cells #[c0, c1, c2] t)) wr) :
  wr.cell? ⟨w.heap.size, 0, none⟩ = some c0 /\ wr.cell? ⟨w.heap.size, 1, none⟩ = some c1 /\ wr.cell? ⟨w.heap.size, 2, none⟩ = some c2 /\ w.heap.size < wr.heap.size :=
 ⟨box_cell hb 0, box_cell hb 1, box_cell hb 2, box_size hb⟩
def busyF (p : List Nat) (f : Fr) : Bool := p.any (fun s => f.occ.getD s false)
theorem getD_at {α : Type} (l : List α) (k : Nat) (d : α) (h : k < l.length) : l.getD k d = l[k] := by
 rw [List.getD_eq_getElem?_getD, List.getElem?_eq_getElem h]; rfl
theorem any_at {α : Type} {p : α -> Bool} {l : List α} {k : Nat} (hk : k < l.length) (h : p l[k] = true) : l.any p = true := List.any_eq_true.2 ⟨_, List.getElem_mem hk, h⟩
theorem any_none {α : Type} {p : α -> Bool} {l : List α} (h : ∀ j (hj : j < l.length), p l[j] = false) : l.any p = false := by
 rw [List.any_eq_false]
 intro x hx
 obtain ⟨j, hj, rfl⟩ := List.getElem_of_mem hx
 rw [h j hj]; simp
set_option maxHeartbeats 1000000 in
theorem rbusy_any (vp0 vfr : Value) (p : List Nat) (f : Fr) (w : World) (hp : Ints w vp0 p) (hf : FrAt w vfr f) (hlt0 : ∀ s, s ∈ p -> s < f.occ.length) :
  Calls Tryz.prog 144 #[vp0, vfr] w fun e w' => e = .returned (.bool (busyF p f)) /\ Below w.heap.size w w' := by
 obtain ⟨vo, vr, rfl, hO, hR⟩ := hf
 obtain ⟨ap, cp, rfl, hp1, hp2, p3⟩ := SlAt.open hp
 obtain ⟨ao, co, rfl, ho1, ho2, o3⟩ := SlAt.open hO
 obtain ⟨ar, cr, rfl, -⟩ := SlAt.open hR
 unfold maxLen at hp2 ho2
 obtain ⟨Z, hZ⟩ : ∃ Z, Z = busyF p f := ⟨_, rfl⟩
 rw [<- hZ]
 unfold busyF at hZ
 have HZ := hide hZ
 have HL := hide hlt0
 generalize f.occ = oc at *
 clear hZ hlt0 hp hO hR
 go_enter Tryz.func144, Tryz.ntmps144
 go_wp2
 go_loopw [5] (fun i wr => ∃ k : Nat, i = .int .i64 k /\ k <= p.length /\ (∀ j (hj : j < p.length), j < k -> oc.getD p[j] false = false) /\ Below (w.heap.size + 1) (w.alloc (.cells #[.slice ao oc.length co, .slice ar f.rep.length cr, .string f.cmds] 163)) wr) (fun i _ => p.length - (intOf i).toNat)
 case atStart => exact ⟨0, rfl, Nat.zero_le _, fun j _ h => by omega, Below.refl _ _⟩
 case round =>
  obtain ⟨k, rfl, hk, hno, hb⟩ := hrel
  have HNO := hide hno
  obtain ⟨z0, z1, z2, qz⟩ := box3 hb
  have hbw := box_below hb
  have HBW := hide hbw
  have HB := hide hb
  clear hno hb
  by_cases hlt : k < p.length
  . obtain ⟨gp, op, hap, hgp, csp, -, hCp, hcp⟩ := p3 k hlt
   subst hap
   unfold CInt at hCp
   subst hCp
   have x0 := hcp 0 (by omega)
   rw [<- hbw.cell (p := ⟨gp, _, none⟩) hgp] at x0
   simp at x0
   have hps := uh HL _ (List.getElem_mem hlt)
   obtain ⟨go, oo, hao, hgo, cso, -, hCo, hco⟩ := o3 p[k] hps
   subst hao
   unfold CBool at hCo
   subst hCo
   have y0 := hco 0 (by omega)
   rw [<- hbw.cell (p := ⟨go, _, none⟩) hgo] at y0
   simp at y0
   have HG := hide (getD_at oc p[k] false hps)
   have k0 : (k : Int) < p.length := by omega
   have k1 : (p[k] : Int) < oc.length := by omega
   have k2 : (0 : Int) <= p[k] := by omega
   have HFD := hide (show oc[p[k]] = true -> Z = true by
    intro h
    rw [uh HZ]
    exact any_at hlt (by show oc.getD p[k] false = true; rw [uh HG]; exact h))
   have HNN := hide (show oc[p[k]] = false -> ∀ j (hj : j < p.length), j < k + 1 -> oc.getD p[j] false = false by
    intro h j hj hj1
    by_cases hj' : j < k
    . exact uh HNO j hj hj'
    . obtain rfl : j = k := by omega
     rw [uh HG]; exact h)
   clear hcp hco p3 o3 hbw HG
   generalize oc[p[k]] = b at *
   generalize p[k] = x at *
   cases b with
   | true =>
    have HZ2 := hide (uh HFD rfl)
    go_wp2
    go_quiet (fail)
    go_wp2
    go_ret
    exact ⟨ret_bool (uh HZ2).symm, below_drewN (uh HBW) _⟩
   | false =>
    go_wp2
    go_quiet (fail)
    go_wp2
    exact ⟨⟨k + 1, by go_num, by omega, uh HNN (by trivial), below_drewN (uh HB) _⟩, by simp [intOf]; omega⟩
  . have HZ2 := hide (show Z = false by
    rw [uh HZ]
    exact any_none (fun j hj => uh HNO j hj (by omega)))
   have k0 : (p.length : Int) <= k := by omega
   clear p3 o3 hbw
   go_wp2
   go_ret
   exact ⟨ret_bool (uh HZ2).symm, uh HBW⟩
def RBx.setB (C : RBx) (t r : Nat) : Bool := (C.line r).ph != 46 && (C.line r).train == t
def RBx.isSet (C : RBx) (t : Nat) : Bool := (List.range C.lines.length).any (C.setB t)
set_option maxHeartbeats 1000000 in
theorem rset_any (g : Nat) (C : RBx) (t : Nat) (w : World) (h : RBoxAt w g C) (hr : C.lines.length <= 1000) :
  Calls Tryz.prog 182 #[.pointer (some ⟨g, 0, none⟩), .int .i64 t] w fun e w' => e = .returned (.bool (C.isSet t)) /\ w' = w := by
 obtain ⟨vh, vr, vt, vl, vw, vf, vd, va, vq, hB, -, -, -, hL, -⟩ := h
 obtain ⟨al, cl, rfl, -, hml, l3⟩ := SlAt.open hL
 obtain ⟨⟨-, -, -, q6, -⟩, -, qg⟩ := box12 hB
 have HK := hide (show ∀ k (h : k < C.lines.length), C.setB t k = (C.lines[k].ph != 46 && C.lines[k].train == t) by
  intro k h
  have h1 : C.line k = C.lines[k] := getD_at _ _ _ h
  unfold RBx.setB
  rw [h1])
 unfold RBx.isSet
 generalize C.setB t = f at *
 generalize C.lines = ls at *
 unfold maxLen at hml
 obtain ⟨Z, hZ⟩ : ∃ Z, Z = (List.range ls.length).any f := ⟨_, rfl⟩
 rw [<- hZ]
 have HZ2 := hide hZ
 clear hL hB hZ
 go_enter Tryz.func182, Tryz.ntmps182
 go_wp2
 go_loopw [5] (fun i wr => ∃ k : Nat, k <= ls.length /\ i = .int .i64 k /\ (∀ j, j < k -> f j = false) /\ wr = w) (fun i _ => ls.length - (intOf i).toNat)
 case atStart => exact ⟨0, Nat.zero_le _, rfl, fun j h => by omega, rfl⟩
 case round =>
  obtain ⟨k, hk, rfl, hno, rfl⟩ := hrel
  have HNO := hide hno
  clear hno
  by_cases hlt : k < ls.length
  . obtain ⟨gl, ol, hal, hgl, cs, -, hC, hc⟩ := l3 k hlt
   subst hal
   obtain ⟨vm, hcs, -⟩ := hC
   subst hcs
   have c0 := hc 0 (by omega)
   have c1 := hc 1 (by omega)
   simp at c0 c1
   have HF := hide (uh HK k hlt)
   have e1 : (k : Int) < ls.length := by omega
   have HNN := hide (show f k = false -> ∀ j, j < k + 1 -> f j = false by
    intro h j hj
    by_cases hj' : j < k
    . exact uh HNO j hj'
    . obtain rfl : j = k := by omega
     exact h)
   clear hc l3
   generalize ls[k].ph = ph at *
   generalize ls[k].train = tr at *
   by_cases hph : ph = 46
   . have b1 : ((ph : Int) != 46) = false := by simp [hph]
    go_wp2
    exact ⟨⟨k + 1, by omega, by go_num, uh HNN (by rw [uh HF]; simp [hph]), by trivial⟩, by simp [intOf]; omega⟩
   . have b1 : ((ph : Int) != 46) = true := by simp; omega
    by_cases htr : tr = t
    . have b2 : ((tr : Int) == t) = true := by simp [htr]
     have HZ3 := hide (show Z = true by rw [uh HZ2]; exact any_rt hlt (by rw [uh HF]; simp [hph, htr]))
     go_wp2
     go_ret
     exact ⟨ret_bool (uh HZ3).symm, rfl⟩
    . have b2 : ((tr : Int) == t) = false := by simp; omega
     go_wp2
     exact ⟨⟨k + 1, by omega, by go_num, uh HNN (by rw [uh HF]; simp [htr]), by trivial⟩, by simp [intOf]; omega⟩
  . obtain rfl : k = ls.length := by omega
   have HZ3 := hide (show Z = false by rw [uh HZ2]; exact any_range_false (uh HNO))
   clear l3
   go_wp2
   go_ret
   exact ⟨ret_bool (uh HZ3).symm, rfl⟩
def RBx.brokenB (C : RBx) (r s : Nat) : Bool := C.L.wantsF r s != 0 && C.failed.getD s false
def RBx.broken (C : RBx) (r : Nat) : Bool := (List.range C.L.sw.length).any (C.brokenB r)
set_option maxHeartbeats 1000000 in
theorem rbroken_any (g : Nat) (C : RBx) (r : Nat) (w : World) (h : RBoxAt w g C) (hr : r < C.L.rts.length) (hs : C.L.sw.length <= 1000) (hfl : C.failed.length = C.L.sw.length) :
  Calls Tryz.prog 146 #[.pointer (some ⟨g, 0, none⟩), .int .i64 r] w fun e w' => e = .returned (.bool (C.broken r)) /\ Below w.heap.size w w' := by
 have HW := hide (fun (s : Nat) (wz : World) (hz : Below w.heap.size w wz) => rwants_any g C r s wz (h.below hz) hr)
 obtain ⟨vh, vr, vt, vl, vw, vf, vd, va, vq, hB, hH, -, -, -, -, hF, -⟩ := h
 obtain ⟨ah, ch, rfl, -⟩ := SlAt.open hH
 obtain ⟨af, cf, rfl, -, hm, f3⟩ := SlAt.open hF
 obtain ⟨⟨q3, -, -, -, -, q8, -⟩, -, qg⟩ := box12 hB
 have HK := hide (show ∀ k (h : k < C.failed.length), C.brokenB r k = (C.L.wantsF r k != 0 && C.failed[k]) by
  intro k h
  unfold RBx.brokenB
  rw [getD_at _ _ _ h])
 unfold RBx.broken
 generalize C.brokenB r = f at *
 generalize C.failed = fa at *
 generalize C.L.sw.length = n at *
 unfold maxLen at hm
 obtain ⟨Z, hZ⟩ : ∃ Z, Z = (List.range n).any f := ⟨_, rfl⟩
 rw [<- hZ]
 have HZ2 := hide hZ
 clear hH hF hB hZ
 go_enter Tryz.func146, Tryz.ntmps146
 go_wp2
 go_loopw [5] (fun i wr => ∃ k : Nat, k <= n /\ i = .int .i64 k /\ (∀ j, j < k -> f j = false) /\ Below w.heap.size w wr) (fun i _ => n - (intOf i).toNat)
 case atStart => exact ⟨0, Nat.zero_le _, rfl, fun j h => by omega, Below.refl _ _⟩
 case round =>
  obtain ⟨k, hk, rfl, hno, hb⟩ := hrel
  have HNO := hide hno
  have HB := hide hb
  have hbs := hb.size
  rw [<- hb.cell (p := ⟨g, _, none⟩) qg] at q3
  clear hno
  by_cases hlt : k < n
  . have hkf : k < fa.length := by omega
   obtain ⟨gf, of, haf, hgf, cs, -, hC, hc⟩ := f3 k hkf
   subst haf
   unfold CBool at hC
   subst hC
   have c0 := hc 0 (by omega)
   simp at c0
   have HF := hide (uh HK k hkf)
   have e1 : (k : Int) < n := by omega
   have e2 : (k : Int) < fa.length := by omega
   have HNN := hide (show f k = false -> ∀ j, j < k + 1 -> f j = false by
    intro h j hj
    by_cases hj' : j < k
    . exact uh HNO j hj'
    . obtain rfl : j = k := by omega
     exact h)
   clear hc f3 hb
   go_wp2_with fail
   refine (uh HW k wr (uh HB)).mono ?_
   rintro e w1 ⟨rfl, hb1⟩
   have hb2 := (uh HB).trans (hb1.mono hbs)
   have HB2 := hide hb2
   rw [<- hb2.cell (p := ⟨gf, _, none⟩) hgf] at c0
   rw [<- hb2.cell (p := ⟨g, _, none⟩) qg] at q8
   clear hb1 hb2 q3
   generalize C.L.wantsF r k = x at *
   generalize fa[k] = b at *
   by_cases hx : x = 0
   . have b1 : ((x : Int) != 0) = false := by simp [hx]
    go_wp2
    exact ⟨⟨k + 1, by omega, by go_num, uh HNN (by rw [uh HF]; simp [hx]), uh HB2⟩, by simp [intOf]; omega⟩
   . have b1 : ((x : Int) != 0) = true := by simp; omega
    cases b with
    | true =>
     have HZ3 := hide (show Z = true by rw [uh HZ2]; exact any_rt hlt (by rw [uh HF]; simp [hx]))
     go_wp2
     go_ret
     exact ⟨ret_bool (uh HZ3).symm, uh HB2⟩
    | false =>
     go_wp2
     exact ⟨⟨k + 1, by omega, by go_num, uh HNN (by rw [uh HF]; simp), uh HB2⟩, by simp [intOf]; omega⟩
  . obtain rfl : k = n := by omega
   have HZ3 := hide (show Z = false by rw [uh HZ2]; exact any_range_false (uh HNO))
   clear f3 hb
   go_wp2
   go_ret
   exact ⟨ret_bool (uh HZ3).symm, uh HB⟩
end Go.Proofs.YtkbpocecbcaiiaaGreatDoor
