import Derived.Test.YtkbpocecbcaiiaaGreatDoorG22
/-
  THE WALKS OVER railsref: wants, held.
-/
namespace Go.Proofs.YtkbpocecbcaiiaaGreatDoor
open Go.RowKit

/-- the sign that a list names for a section; 0: none. -/
def signOf (l : List (Nat × Nat)) (s : Nat) : Option Nat := (l.find? (fun x => x.1 == s)).map (·.2)
def Lay.wantsF (L : Lay) (r s : Nat) : Nat := match signOf (L.rt r).path s with
  | some x => x
  | none => (signOf (L.rt r).flank s).getD 0
theorem signOf_none (l : List (Nat × Nat)) (s : Nat) (h : ∀ j (hj : j < l.length), l[j].1 ≠ s) : signOf l s = none := by
  unfold signOf
  rw [List.find?_eq_none.2, Option.map_none]
  intro x hx
  obtain ⟨j, hj, rfl⟩ := List.getElem_of_mem hx
  simpa using h j hj
theorem signOf_some (l : List (Nat × Nat)) (s k : Nat) (hk : k < l.length) (h : ∀ j (hj : j < l.length), j < k → l[j].1 ≠ s) (he : l[k].1 = s) : signOf l s = some l[k].2 := by
  unfold signOf
  have : l.find? (fun x => x.1 == s) = some l[k] := by
    rw [List.find?_eq_some_iff_getElem]
    refine ⟨by simpa using he, k, hk, rfl, fun j hj => ?_⟩
    simpa using h j (by omega) hj
  rw [this]; rfl
theorem secs_get (l : List (Nat × Nat)) (k : Nat) (h : k < l.length) (h' : k < (secs l).length) : (secs l)[k] = l[k].1 := by simp [secs]
theorem signs_get (l : List (Nat × Nat)) (k : Nat) (h : k < l.length) (h' : k < (signs l).length) : (signs l)[k] = l[k].2 := by simp [signs]

set_option maxHeartbeats 1000000 in
theorem rwants_any (g : Nat) (C : RBx) (r s : Nat) (w : World) (h : RBoxAt w g C) (hr : r < C.L.rts.length) :
    Calls Tryz.prog 152 #[.pointer (some ⟨g, 0, none⟩), .int .i64 r, .int .i64 s] w fun e w' => e = .returned (.int .u8 (C.L.wantsF r s)) ∧ Below w.heap.size w w' := by
  obtain ⟨vh, vr, vt, vl, vw, vf, vd, va, vq, hB, -, hR, -⟩ := h
  obtain ⟨ar, cr, rfl, -, hmr, r3⟩ := SlAt.open hR
  obtain ⟨⟨-, q4, -⟩, -, qg⟩ := box12 hB
  unfold Lay.wantsF
  rw [rt_eq C.L r hr]
  obtain ⟨gr, or_, rfl, hgr, cs, -, hC, hc⟩ := r3 r hr
  obtain ⟨vp, vs, vfl, vg, rfl, hP, hS, hFl, hLi⟩ := hC
  have c0 := hc 0 (by omega)
  have c1 := hc 1 (by omega)
  have c2 := hc 2 (by omega)
  have c3 := hc 3 (by omega)
  have c4 := hc 4 (by omega)
  simp at c0 c1 c2 c3 c4
  have l1 : (r : Int) < C.L.rts.length := by omega
  have l0 : (0 : Int) ≤ r := by omega
  unfold maxLen at hmr
  generalize C.L.rts[r] = R at *
  obtain ⟨ap, cp, hv1, hp1, hp2, p3⟩ := SlAt.open hP
  obtain ⟨as_, cs_, hv2, -, hs2, s3⟩ := SlAt.open hS
  obtain ⟨af, cf, hv3, hf1, hf2, f3⟩ := SlAt.open hFl
  obtain ⟨al, cl, hv4, -, hl2, l3⟩ := SlAt.open hLi
  rw [secs_len] at hv1 hv3 hp1 hf1
  rw [signs_len] at hv2 hv4
  subst hv1 hv2 hv3 hv4
  unfold maxLen at hp2 hs2 hf2 hl2
  obtain ⟨Z, hZ⟩ : ∃ Z, Z = (match signOf R.path s with | some x => x | none => (signOf R.flank s).getD 0) := ⟨_, rfl⟩
  rw [← hZ]
  have HZ := hide hZ
  clear hR hB r3 hc hP hS hFl hLi hZ
  go_enter Tryz.func152, Tryz.ntmps152
  go_wp2
  go_loopw [8] (fun i wr => ∃ k : Nat, i = .int .i64 k ∧ k ≤ R.path.length ∧ (∀ j (hj : j < R.path.length), j < k → R.path[j].1 ≠ s) ∧ Below (w.heap.size + 1) (w.alloc (rrtBox R (.slice ap R.path.length cp) (.slice as_ R.path.length cs_) (.slice af R.flank.length cf) (.slice al R.flank.length cl))) wr) (fun i _ => R.path.length - (intOf i).toNat)
  case atStart => exact ⟨0, rfl, Nat.zero_le _, fun j _ h => by omega, Below.refl _ _⟩
  case round =>
    obtain ⟨k, rfl, hk, hno, hb⟩ := hrel
    have HNO := hide hno
    obtain ⟨⟨z0, z1, z2, z3, z4⟩, -, qz⟩ := five hb
    have hbw := box_below hb
    have HBW := hide hbw
    have HB := hide hb
    clear hno hb
    by_cases hlt : k < R.path.length
    · obtain ⟨gp, op, hap, hgp, csp, -, hCp, hcp⟩ := p3 k (by rw [secs_len]; omega)
      obtain ⟨gs, os, has, hgs, css, -, hCs, hcs⟩ := s3 k (by rw [signs_len]; omega)
      subst hap has
      unfold CInt at hCp
      unfold CByte at hCs
      subst hCp hCs
      have x0 := hcp 0 (by omega)
      have y0 := hcs 0 (by omega)
      rw [← hbw.cell (p := ⟨gp, _, none⟩) hgp, secs_get _ _ hlt] at x0
      rw [← hbw.cell (p := ⟨gs, _, none⟩) hgs, signs_get _ _ hlt] at y0
      simp at x0 y0
      have k0 : (k : Int) < R.path.length := by omega
      have HFD := hide (show R.path[k].1 = s → Z = R.path[k].2 by
        intro he
        rw [unhide HZ, signOf_some R.path s k hlt (unhide HNO) he])
      have HNN := hide (show R.path[k].1 ≠ s → ∀ j (hj : j < R.path.length), j < k + 1 → R.path[j].1 ≠ s by
        intro hne j hj h
        by_cases hj' : j < k
        · exact unhide HNO j hj hj'
        · obtain rfl : j = k := by omega
          exact hne)
      clear hcp hcs p3 s3 hbw f3 l3
      generalize R.path[k].1 = x at *
      generalize R.path[k].2 = y at *
      by_cases hxs : x = s
      · have b2 : ((x : Int) == s) = true := by simp [hxs]
        have HZ2 := hide (unhide HFD hxs)
        go_wp2
        go_ret
        exact ⟨ret_int (by rw [unhide HZ2]), unhide HBW⟩
      · have b2 : ((x : Int) == s) = false := by simp; omega
        go_wp2
        exact ⟨⟨k + 1, by go_num, by omega, unhide HNN hxs, unhide HB⟩, by simp [intOf]; omega⟩
    · have HZ1 := hide (show Z = (signOf R.flank s).getD 0 by
        rw [unhide HZ, signOf_none R.path s (fun j hj => unhide HNO j hj (by omega))])
      have k0 : (R.path.length : Int) ≤ k := by omega
      clear p3 s3 hbw HZ HNO
      go_wp2
      go_loopw [9] (fun i wx => ∃ k : Nat, i = .int .i64 k ∧ k ≤ R.flank.length ∧ (∀ j (hj : j < R.flank.length), j < k → R.flank[j].1 ≠ s) ∧ Below (w.heap.size + 1) (w.alloc (rrtBox R (.slice ap R.path.length cp) (.slice as_ R.path.length cs_) (.slice af R.flank.length cf) (.slice al R.flank.length cl))) wx) (fun i _ => R.flank.length - (intOf i).toNat)
      case atStart => exact ⟨0, rfl, Nat.zero_le _, fun j _ h => by omega, unhide HB⟩
      case round =>
        clear z0 z1 z2 z3 z4 qz HBW HB hk hlt k0
        obtain ⟨k, rfl, hk, hno, hb⟩ := hrel
        have HNO := hide hno
        obtain ⟨⟨z0, z1, z2, z3, z4⟩, -, qz⟩ := five hb
        have hbw := box_below hb
        have HBW := hide hbw
        have HB := hide hb
        clear hno hb
        by_cases hlt : k < R.flank.length
        · obtain ⟨gp, op, hap, hgp, csp, -, hCp, hcp⟩ := f3 k (by rw [secs_len]; omega)
          obtain ⟨gs, os, has, hgs, css, -, hCs, hcs⟩ := l3 k (by rw [signs_len]; omega)
          subst hap has
          unfold CInt at hCp
          unfold CByte at hCs
          subst hCp hCs
          have x0 := hcp 0 (by omega)
          have y0 := hcs 0 (by omega)
          rw [← hbw.cell (p := ⟨gp, _, none⟩) hgp, secs_get _ _ hlt] at x0
          rw [← hbw.cell (p := ⟨gs, _, none⟩) hgs, signs_get _ _ hlt] at y0
          simp at x0 y0
          have k0 : (k : Int) < R.flank.length := by omega
          have HFD := hide (show R.flank[k].1 = s → Z = R.flank[k].2 by
            intro he
            rw [unhide HZ1, signOf_some R.flank s k hlt (unhide HNO) he]; rfl)
          have HNN := hide (show R.flank[k].1 ≠ s → ∀ j (hj : j < R.flank.length), j < k + 1 → R.flank[j].1 ≠ s by
            intro hne j hj h
            by_cases hj' : j < k
            · exact unhide HNO j hj hj'
            · obtain rfl : j = k := by omega
              exact hne)
          clear hcp hcs f3 l3 hbw
          generalize R.flank[k].1 = x at *
          generalize R.flank[k].2 = y at *
          by_cases hxs : x = s
          · have b2 : ((x : Int) == s) = true := by simp [hxs]
            have HZ2 := hide (unhide HFD hxs)
            go_wp2
            go_ret
            exact ⟨ret_int (by rw [unhide HZ2]), unhide HBW⟩
          · have b2 : ((x : Int) == s) = false := by simp; omega
            go_wp2
            exact ⟨⟨k + 1, by go_num, by omega, unhide HNN hxs, unhide HB⟩, by simp [intOf]; omega⟩
        · have HZ2 := hide (show Z = 0 by
            rw [unhide HZ1, signOf_none R.flank s (fun j hj => unhide HNO j hj (by omega))]; rfl)
          have k0 : (R.flank.length : Int) ≤ k := by omega
          clear f3 l3 hbw
          go_wp2
          go_ret
          exact ⟨ret_int (by rw [unhide HZ2]; rfl), unhide HBW⟩

def RBx.flankB (C : RBx) (s r : Nat) : Bool := (C.line r).ph != 46 && has (C.L.rt r).flank s
def RBx.heldB (C : RBx) (s : Nat) : Bool := (C.lockedBy s).isSome || (List.range C.lines.length).any (C.flankB s)
theorem any_rt {f : Nat → Bool} {n k : Nat} (hk : k < n) (h : f k = true) : (List.range n).any f = true := List.any_eq_true.2 ⟨k, List.mem_range.2 hk, h⟩
theorem any_range_false {f : Nat → Bool} {n : Nat} (h : ∀ j, j < n → f j = false) : (List.range n).any f = false := by
  rw [List.any_eq_false]; intro j hj; rw [h j (List.mem_range.1 hj)]; simp

set_option maxHeartbeats 1000000 in
theorem rheld_any (g : Nat) (C : RBx) (s : Nat) (w : World) (h : RBoxAt w g C) (hl : C.lines.length ≤ C.L.rts.length) (hr : C.L.rts.length ≤ 1000) (hgo : ∀ x, x ∈ C.lines → x.gone ≤ 1000) :
    Calls Tryz.prog 143 #[.pointer (some ⟨g, 0, none⟩), .int .i64 s] w fun e w' => e = .returned (.bool (C.heldB s)) ∧ w' = w := by
  have HLK := hide (rlocked_any g C s w h hl hr hgo)
  obtain ⟨vh, vr, vt, vl, vw, vf, vd, va, vq, hB, -, hR, -, hL, -⟩ := h
  obtain ⟨ar, cr, rfl, -, hmr, r3⟩ := SlAt.open hR
  obtain ⟨al, cl, rfl, -, hml, l3⟩ := SlAt.open hL
  obtain ⟨⟨-, q4, -, q6, -⟩, -, qg⟩ := box12 hB
  have HK := hide (show ∀ k (h : k < C.lines.length) (hr : k < C.L.rts.length), C.flankB s k = (C.lines[k].ph != 46 && has C.L.rts[k].flank s) by
    intro k h hr
    have h1 : C.line k = C.lines[k] := by unfold RBx.line; rw [List.getD_eq_getElem?_getD, List.getElem?_eq_getElem h]; rfl
    unfold RBx.flankB
    rw [h1, rt_eq C.L k hr])
  unfold RBx.heldB
  generalize C.flankB s = f at *
  generalize C.lockedBy s = o at *
  generalize C.lines = ls at *
  generalize C.L.rts = rs at *
  unfold maxLen at hmr hml
  obtain ⟨Z, hZ⟩ : ∃ Z, Z = (o.isSome || (List.range ls.length).any f) := ⟨_, rfl⟩
  rw [← hZ]
  have HZ := hide hZ
  clear hR hL hB hZ hgo
  go_enter Tryz.func143, Tryz.ntmps143
  go_wp2_with fail
  refine (unhide HLK).mono ?_
  rintro e w1 ⟨rfl, rfl⟩
  clear HLK
  cases o with
  | some r =>
    have HZ2 := hide (show Z = true from unhide HZ)
    have b0 : (0 : Int) ≤ r := by omega
    simp only [optI]
    go_wp2
    go_ret
    exact ⟨ret_bool (unhide HZ2).symm, rfl⟩
  | none =>
    have HZ2 := hide (show Z = (List.range ls.length).any f from unhide HZ)
    simp only [optI]
    clear HZ
    go_wp2
    go_loopw [6] (fun i wr => ∃ k : Nat, k ≤ ls.length ∧ i = .int .i64 k ∧ (∀ j, j < k → f j = false) ∧ wr = w1) (fun i _ => ls.length - (intOf i).toNat)
    case atStart => exact ⟨0, Nat.zero_le _, rfl, fun j h => by omega, rfl⟩
    case round =>
      obtain ⟨k, hk, rfl, hno, rfl⟩ := hrel
      have HNO := hide hno
      clear hno
      by_cases hlt : k < ls.length
      · obtain ⟨gl, ol, hal, hgl, cs, -, hC, hc⟩ := l3 k hlt
        have hkr : k < rs.length := by omega
        obtain ⟨gr, or_, har, hgr, csr, -, hCr, hcr⟩ := r3 k hkr
        subst hal har
        obtain ⟨vm, hcs, -⟩ := hC
        obtain ⟨vp, vs, vfl, vg, hcsr, -, -, hFl, -⟩ := hCr
        subst hcs hcsr
        have c0 := hc 0 (by omega)
        have d3 := hcr 3 (by omega)
        simp at c0 d3
        have HFl := hide hFl
        obtain ⟨ap, cp, rfl, -, hmp, -⟩ := SlAt.open hFl
        have HF := hide (unhide HK k hlt hkr)
        have HT := hide (times_has rs[k].flank s)
        have e1 : (k : Int) < ls.length := by omega
        have e2 : (k : Int) < rs.length := by omega
        clear hc hcr hFl r3 l3
        generalize ls[k].ph = ph at *
        have HNN := hide (show f k = false → ∀ j, j < k + 1 → f j = false by
          intro h j hj
          by_cases hj' : j < k
          · exact unhide HNO j hj'
          · obtain rfl : j = k := by omega
            exact h)
        by_cases hph : ph = 46
        · have b1 : ((ph : Int) != 46) = false := by simp [hph]
          go_wp2_with (go_at_call 155; refine (times_any _ _ _ _ (unhide HFl)).mono ?_; rintro e w' ⟨rfl, rfl⟩)
          exact ⟨⟨k + 1, by omega, by go_num, unhide HNN (by rw [unhide HF]; simp [hph]), by trivial⟩, by simp [intOf]; omega⟩
        · have b1 : ((ph : Int) != 46) = true := by simp; omega
          go_wp2_with (go_at_call 155; refine (times_any _ _ _ _ (unhide HFl)).mono ?_; rintro e w' ⟨rfl, rfl⟩)
          · have ht : 0 < timesZ (secs rs[k].flank) s := by assumption
            have HZ3 := hide (show Z = true by
              rw [unhide HZ2]
              exact any_rt hlt (by rw [unhide HF, ← unhide HT]; simp [hph, ht]))
            go_ret
            exact ⟨ret_bool (unhide HZ3).symm, rfl⟩
          · have ht : timesZ (secs rs[k].flank) s ≤ 0 := by assumption
            exact ⟨⟨k + 1, by omega, by go_num, unhide HNN (by rw [unhide HF, ← unhide HT, show decide (0 < timesZ (secs rs[k].flank) ↑s) = false from decide_eq_false (by omega)]; simp), by trivial⟩, by simp [intOf]; omega⟩
      · obtain rfl : k = ls.length := by omega
        have HZ3 := hide (show Z = false by rw [unhide HZ2]; exact any_range_false (unhide HNO))
        clear r3 l3
        go_wp2
        go_ret
        exact ⟨ret_bool (unhide HZ3).symm, rfl⟩
end Go.Proofs.YtkbpocecbcaiiaaGreatDoor

/-
  THE WALKS OVER railsref: a frame; busy, right, broken, set.
-/
namespace Go.Proofs.YtkbpocecbcaiiaaGreatDoor
open Go.RowKit

structure Fr where
  occ : List Bool
  rep : List Nat
  cmds : ByteArray
def FrAt (w : World) (v : Value) (f : Fr) : Prop := ∃ vo vp, v = .agg #[vo, vp, .string f.cmds] ∧ Bools w vo f.occ ∧ Byts w vp f.rep
theorem FrAt.below {w w' : World} {v : Value} {f : Fr} (h : FrAt w v f) (k : Below w.heap.size w w') : FrAt w' v f := by
  obtain ⟨vo, vp, e, a, b⟩ := h
  exact ⟨vo, vp, e, a.keep (.below k), b.keep (.below k)⟩
theorem box3 {w wr : World} {c0 c1 c2 : Value} {t : TypeId} (hb : Below (w.heap.size + 1) (w.alloc (.cells #[c0, c1, c2] t)) wr) :
    wr.cell? ⟨w.heap.size, 0, none⟩ = some c0 ∧ wr.cell? ⟨w.heap.size, 1, none⟩ = some c1 ∧ wr.cell? ⟨w.heap.size, 2, none⟩ = some c2 ∧ w.heap.size < wr.heap.size :=
  ⟨box_cell hb 0, box_cell hb 1, box_cell hb 2, box_size hb⟩

def busyF (p : List Nat) (f : Fr) : Bool := p.any (fun s => f.occ.getD s false)
theorem getD_at {α : Type} (l : List α) (k : Nat) (d : α) (h : k < l.length) : l.getD k d = l[k] := by
  rw [List.getD_eq_getElem?_getD, List.getElem?_eq_getElem h]; rfl
theorem any_at {α : Type} {p : α → Bool} {l : List α} {k : Nat} (hk : k < l.length) (h : p l[k] = true) : l.any p = true := List.any_eq_true.2 ⟨_, List.getElem_mem hk, h⟩
theorem any_none {α : Type} {p : α → Bool} {l : List α} (h : ∀ j (hj : j < l.length), p l[j] = false) : l.any p = false := by
  rw [List.any_eq_false]
  intro x hx
  obtain ⟨j, hj, rfl⟩ := List.getElem_of_mem hx
  rw [h j hj]; simp

set_option maxHeartbeats 1000000 in
theorem rbusy_any (vp0 vfr : Value) (p : List Nat) (f : Fr) (w : World) (hp : Ints w vp0 p) (hf : FrAt w vfr f) (hlt0 : ∀ s, s ∈ p → s < f.occ.length) :
    Calls Tryz.prog 144 #[vp0, vfr] w fun e w' => e = .returned (.bool (busyF p f)) ∧ Below w.heap.size w w' := by
  obtain ⟨vo, vr, rfl, hO, hR⟩ := hf
  obtain ⟨ap, cp, rfl, hp1, hp2, p3⟩ := SlAt.open hp
  obtain ⟨ao, co, rfl, ho1, ho2, o3⟩ := SlAt.open hO
  obtain ⟨ar, cr, rfl, -⟩ := SlAt.open hR
  unfold maxLen at hp2 ho2
  obtain ⟨Z, hZ⟩ : ∃ Z, Z = busyF p f := ⟨_, rfl⟩
  rw [← hZ]
  unfold busyF at hZ
  have HZ := hide hZ
  have HL := hide hlt0
  generalize f.occ = oc at *
  clear hZ hlt0 hp hO hR
  go_enter Tryz.func144, Tryz.ntmps144
  go_wp2
  go_loopw [5] (fun i wr => ∃ k : Nat, i = .int .i64 k ∧ k ≤ p.length ∧ (∀ j (hj : j < p.length), j < k → oc.getD p[j] false = false) ∧ Below (w.heap.size + 1) (w.alloc (.cells #[.slice ao oc.length co, .slice ar f.rep.length cr, .string f.cmds] 163)) wr) (fun i _ => p.length - (intOf i).toNat)
  case atStart => exact ⟨0, rfl, Nat.zero_le _, fun j _ h => by omega, Below.refl _ _⟩
  case round =>
    obtain ⟨k, rfl, hk, hno, hb⟩ := hrel
    have HNO := hide hno
    obtain ⟨z0, z1, z2, qz⟩ := box3 hb
    have hbw := box_below hb
    have HBW := hide hbw
    have HB := hide hb
    clear hno hb
    by_cases hlt : k < p.length
    · obtain ⟨gp, op, hap, hgp, csp, -, hCp, hcp⟩ := p3 k hlt
      subst hap
      unfold CInt at hCp
      subst hCp
      have x0 := hcp 0 (by omega)
      rw [← hbw.cell (p := ⟨gp, _, none⟩) hgp] at x0
      simp at x0
      have hps := unhide HL _ (List.getElem_mem hlt)
      obtain ⟨go, oo, hao, hgo, cso, -, hCo, hco⟩ := o3 p[k] hps
      subst hao
      unfold CBool at hCo
      subst hCo
      have y0 := hco 0 (by omega)
      rw [← hbw.cell (p := ⟨go, _, none⟩) hgo] at y0
      simp at y0
      have HG := hide (getD_at oc p[k] false hps)
      have k0 : (k : Int) < p.length := by omega
      have k1 : (p[k] : Int) < oc.length := by omega
      have k2 : (0 : Int) ≤ p[k] := by omega
      have HFD := hide (show oc[p[k]] = true → Z = true by
        intro h
        rw [unhide HZ]
        exact any_at hlt (by show oc.getD p[k] false = true; rw [unhide HG]; exact h))
      have HNN := hide (show oc[p[k]] = false → ∀ j (hj : j < p.length), j < k + 1 → oc.getD p[j] false = false by
        intro h j hj hj1
        by_cases hj' : j < k
        · exact unhide HNO j hj hj'
        · obtain rfl : j = k := by omega
          rw [unhide HG]; exact h)
      clear hcp hco p3 o3 hbw HG
      generalize oc[p[k]] = b at *
      generalize p[k] = x at *
      cases b with
      | true =>
        have HZ2 := hide (unhide HFD rfl)
        go_wp2
        go_quiet (fail)
        go_wp2
        go_ret
        exact ⟨ret_bool (unhide HZ2).symm, below_drewN (unhide HBW) _⟩
      | false =>
        go_wp2
        go_quiet (fail)
        go_wp2
        exact ⟨⟨k + 1, by go_num, by omega, unhide HNN (by trivial), below_drewN (unhide HB) _⟩, by simp [intOf]; omega⟩
    · have HZ2 := hide (show Z = false by
        rw [unhide HZ]
        exact any_none (fun j hj => unhide HNO j hj (by omega)))
      have k0 : (p.length : Int) ≤ k := by omega
      clear p3 o3 hbw
      go_wp2
      go_ret
      exact ⟨ret_bool (unhide HZ2).symm, unhide HBW⟩

def RBx.setB (C : RBx) (t r : Nat) : Bool := (C.line r).ph != 46 && (C.line r).train == t
def RBx.isSet (C : RBx) (t : Nat) : Bool := (List.range C.lines.length).any (C.setB t)
set_option maxHeartbeats 1000000 in
theorem rset_any (g : Nat) (C : RBx) (t : Nat) (w : World) (h : RBoxAt w g C) (hr : C.lines.length ≤ 1000) :
    Calls Tryz.prog 182 #[.pointer (some ⟨g, 0, none⟩), .int .i64 t] w fun e w' => e = .returned (.bool (C.isSet t)) ∧ w' = w := by
  obtain ⟨vh, vr, vt, vl, vw, vf, vd, va, vq, hB, -, -, -, hL, -⟩ := h
  obtain ⟨al, cl, rfl, -, hml, l3⟩ := SlAt.open hL
  obtain ⟨⟨-, -, -, q6, -⟩, -, qg⟩ := box12 hB
  have HK := hide (show ∀ k (h : k < C.lines.length), C.setB t k = (C.lines[k].ph != 46 && C.lines[k].train == t) by
    intro k h
    have h1 : C.line k = C.lines[k] := getD_at _ _ _ h
    unfold RBx.setB
    rw [h1])
  unfold RBx.isSet
  generalize C.setB t = f at *
  generalize C.lines = ls at *
  unfold maxLen at hml
  obtain ⟨Z, hZ⟩ : ∃ Z, Z = (List.range ls.length).any f := ⟨_, rfl⟩
  rw [← hZ]
  have HZ2 := hide hZ
  clear hL hB hZ
  go_enter Tryz.func182, Tryz.ntmps182
  go_wp2
  go_loopw [5] (fun i wr => ∃ k : Nat, k ≤ ls.length ∧ i = .int .i64 k ∧ (∀ j, j < k → f j = false) ∧ wr = w) (fun i _ => ls.length - (intOf i).toNat)
  case atStart => exact ⟨0, Nat.zero_le _, rfl, fun j h => by omega, rfl⟩
  case round =>
    obtain ⟨k, hk, rfl, hno, rfl⟩ := hrel
    have HNO := hide hno
    clear hno
    by_cases hlt : k < ls.length
    · obtain ⟨gl, ol, hal, hgl, cs, -, hC, hc⟩ := l3 k hlt
      subst hal
      obtain ⟨vm, hcs, -⟩ := hC
      subst hcs
      have c0 := hc 0 (by omega)
      have c1 := hc 1 (by omega)
      simp at c0 c1
      have HF := hide (unhide HK k hlt)
      have e1 : (k : Int) < ls.length := by omega
      have HNN := hide (show f k = false → ∀ j, j < k + 1 → f j = false by
        intro h j hj
        by_cases hj' : j < k
        · exact unhide HNO j hj'
        · obtain rfl : j = k := by omega
          exact h)
      clear hc l3
      generalize ls[k].ph = ph at *
      generalize ls[k].train = tr at *
      by_cases hph : ph = 46
      · have b1 : ((ph : Int) != 46) = false := by simp [hph]
        go_wp2
        exact ⟨⟨k + 1, by omega, by go_num, unhide HNN (by rw [unhide HF]; simp [hph]), by trivial⟩, by simp [intOf]; omega⟩
      · have b1 : ((ph : Int) != 46) = true := by simp; omega
        by_cases htr : tr = t
        · have b2 : ((tr : Int) == t) = true := by simp [htr]
          have HZ3 := hide (show Z = true by rw [unhide HZ2]; exact any_rt hlt (by rw [unhide HF]; simp [hph, htr]))
          go_wp2
          go_ret
          exact ⟨ret_bool (unhide HZ3).symm, rfl⟩
        · have b2 : ((tr : Int) == t) = false := by simp; omega
          go_wp2
          exact ⟨⟨k + 1, by omega, by go_num, unhide HNN (by rw [unhide HF]; simp [htr]), by trivial⟩, by simp [intOf]; omega⟩
    · obtain rfl : k = ls.length := by omega
      have HZ3 := hide (show Z = false by rw [unhide HZ2]; exact any_range_false (unhide HNO))
      clear l3
      go_wp2
      go_ret
      exact ⟨ret_bool (unhide HZ3).symm, rfl⟩

def RBx.brokenB (C : RBx) (r s : Nat) : Bool := C.L.wantsF r s != 0 && C.failed.getD s false
def RBx.broken (C : RBx) (r : Nat) : Bool := (List.range C.L.sw.length).any (C.brokenB r)
set_option maxHeartbeats 1000000 in
theorem rbroken_any (g : Nat) (C : RBx) (r : Nat) (w : World) (h : RBoxAt w g C) (hr : r < C.L.rts.length) (hs : C.L.sw.length ≤ 1000) (hfl : C.failed.length = C.L.sw.length) :
    Calls Tryz.prog 146 #[.pointer (some ⟨g, 0, none⟩), .int .i64 r] w fun e w' => e = .returned (.bool (C.broken r)) ∧ Below w.heap.size w w' := by
  have HW := hide (fun (s : Nat) (wz : World) (hz : Below w.heap.size w wz) => rwants_any g C r s wz (h.below hz) hr)
  obtain ⟨vh, vr, vt, vl, vw, vf, vd, va, vq, hB, hH, -, -, -, -, hF, -⟩ := h
  obtain ⟨ah, ch, rfl, -⟩ := SlAt.open hH
  obtain ⟨af, cf, rfl, -, hm, f3⟩ := SlAt.open hF
  obtain ⟨⟨q3, -, -, -, -, q8, -⟩, -, qg⟩ := box12 hB
  have HK := hide (show ∀ k (h : k < C.failed.length), C.brokenB r k = (C.L.wantsF r k != 0 && C.failed[k]) by
    intro k h
    unfold RBx.brokenB
    rw [getD_at _ _ _ h])
  unfold RBx.broken
  generalize C.brokenB r = f at *
  generalize C.failed = fa at *
  generalize C.L.sw.length = n at *
  unfold maxLen at hm
  obtain ⟨Z, hZ⟩ : ∃ Z, Z = (List.range n).any f := ⟨_, rfl⟩
  rw [← hZ]
  have HZ2 := hide hZ
  clear hH hF hB hZ
  go_enter Tryz.func146, Tryz.ntmps146
  go_wp2
  go_loopw [5] (fun i wr => ∃ k : Nat, k ≤ n ∧ i = .int .i64 k ∧ (∀ j, j < k → f j = false) ∧ Below w.heap.size w wr) (fun i _ => n - (intOf i).toNat)
  case atStart => exact ⟨0, Nat.zero_le _, rfl, fun j h => by omega, Below.refl _ _⟩
  case round =>
    obtain ⟨k, hk, rfl, hno, hb⟩ := hrel
    have HNO := hide hno
    have HB := hide hb
    have hbs := hb.size
    rw [← hb.cell (p := ⟨g, _, none⟩) qg] at q3
    clear hno
    by_cases hlt : k < n
    · have hkf : k < fa.length := by omega
      obtain ⟨gf, of, haf, hgf, cs, -, hC, hc⟩ := f3 k hkf
      subst haf
      unfold CBool at hC
      subst hC
      have c0 := hc 0 (by omega)
      simp at c0
      have HF := hide (unhide HK k hkf)
      have e1 : (k : Int) < n := by omega
      have e2 : (k : Int) < fa.length := by omega
      have HNN := hide (show f k = false → ∀ j, j < k + 1 → f j = false by
        intro h j hj
        by_cases hj' : j < k
        · exact unhide HNO j hj'
        · obtain rfl : j = k := by omega
          exact h)
      clear hc f3 hb
      go_wp2_with fail
      refine (unhide HW k wr (unhide HB)).mono ?_
      rintro e w1 ⟨rfl, hb1⟩
      have hb2 := (unhide HB).trans (hb1.mono hbs)
      have HB2 := hide hb2
      rw [← hb2.cell (p := ⟨gf, _, none⟩) hgf] at c0
      rw [← hb2.cell (p := ⟨g, _, none⟩) qg] at q8
      clear hb1 hb2 q3
      generalize C.L.wantsF r k = x at *
      generalize fa[k] = b at *
      by_cases hx : x = 0
      · have b1 : ((x : Int) != 0) = false := by simp [hx]
        go_wp2
        exact ⟨⟨k + 1, by omega, by go_num, unhide HNN (by rw [unhide HF]; simp [hx]), unhide HB2⟩, by simp [intOf]; omega⟩
      · have b1 : ((x : Int) != 0) = true := by simp; omega
        cases b with
        | true =>
          have HZ3 := hide (show Z = true by rw [unhide HZ2]; exact any_rt hlt (by rw [unhide HF]; simp [hx]))
          go_wp2
          go_ret
          exact ⟨ret_bool (unhide HZ3).symm, unhide HB2⟩
        | false =>
          go_wp2
          exact ⟨⟨k + 1, by omega, by go_num, unhide HNN (by rw [unhide HF]; simp), unhide HB2⟩, by simp [intOf]; omega⟩
    · obtain rfl : k = n := by omega
      have HZ3 := hide (show Z = false by rw [unhide HZ2]; exact any_range_false (unhide HNO))
      clear f3 hb
      go_wp2
      go_ret
      exact ⟨ret_bool (unhide HZ3).symm, unhide HB⟩
end Go.Proofs.YtkbpocecbcaiiaaGreatDoor

/-
  THE DOCUMENT's BOX, AS IT IS WRITTEN: what it owns, what a store turns, what stays.
-/
namespace Go.Proofs.YtkbpocecbcaiiaaGreatDoor
open Go.RowKit

/-- the blocks of R hold the same. -/
def SameOn (R : Nat → Prop) (w w' : World) : Prop := ∀ k, R k → w'.heap[k]? = w.heap[k]?
theorem SameOn.trans {R : Nat → Prop} {a b c : World} (h : SameOn R a b) (k : SameOn R b c) : SameOn R a c := fun i hi => (k i hi).trans (h i hi)
/-- of what was there only blocks of F have turned. -/
structure Only (F : Nat → Prop) (w w' : World) : Prop where
  os : w'.os = w.os
  tape : w'.tape = w.tape
  output : w'.output = w.output
  size : w.heap.size ≤ w'.heap.size
  block : ∀ k, k < w.heap.size → ¬ F k → w'.heap[k]? = w.heap[k]?
theorem Only.refl (F : Nat → Prop) (w : World) : Only F w w := ⟨rfl, rfl, rfl, Nat.le_refl _, fun _ _ _ => rfl⟩
theorem Only.trans {F : Nat → Prop} {a b c : World} (h : Only F a b) (k : Only F b c) : Only F a c :=
  ⟨k.os.trans h.os, k.tape.trans h.tape, k.output.trans h.output, Nat.le_trans h.size k.size, fun i hi hf => (k.block i (Nat.lt_of_lt_of_le hi h.size) hf).trans (h.block i hi hf)⟩
theorem Only.mono {F G : Nat → Prop} {w w' : World} (h : Only F w w') (hFG : ∀ k, F k → G k) : Only G w w' := ⟨h.os, h.tape, h.output, h.size, fun k hk hg => h.block k hk (fun hf => hg (hFG k hf))⟩
theorem Only.of_below {F : Nat → Prop} {w w' : World} (h : Below w.heap.size w w') : Only F w w' := ⟨h.os, h.tape, h.output, h.size, fun k hk _ => h.block k hk⟩
theorem Only.setCell {F : Nat → Prop} {w : World} {a : Addr} (h : F a.block) (u : Value) : Only F w (w.setCell a u) :=
  ⟨rfl, rfl, rfl, by simp [World.setCell], fun k _ hf => Below.heap_setCell _ _ _ _ (fun e => hf (e ▸ h))⟩
/-- new blocks may count as turned: nothing of w is lost. -/
theorem Only.alloc {F : Nat → Prop} {a w : World} (h : Only F a w) (o : Obj) : Only F a (w.alloc o) := h.trans (Only.of_below (below_alloc w o))


theorem sameOn_setCell {R : Nat → Prop} {w : World} {b j : Nat} {u : Value} (h : ¬ R b) : SameOn R w (w.setCell ⟨b, j, none⟩ u) := fun k hk => Below.heap_setCell _ _ _ _ (fun e => h (by have e' : k = b := e; rw [e'] at hk; exact hk))
/-- a plan that is read out of the blocks of R alone. -/
def PlanIn (R : Nat → Prop) (w : World) (vh vr vt : Value) (L : Lay) : Prop := (∀ k, R k → k < w.heap.size) ∧ ∀ w', SameOn R w w' → Bools w' vh L.sw ∧ RRts w' vr L.rts ∧ RTns w' vt L.tns
theorem PlanIn.same {R : Nat → Prop} {w w' : World} {vh vr vt : Value} {L : Lay} (h : PlanIn R w vh vr vt L) (hs : SameOn R w w') (hz : w.heap.size ≤ w'.heap.size) : PlanIn R w' vh vr vt L :=
  ⟨fun k hk => Nat.lt_of_lt_of_le (h.1 k hk) hz, fun w'' h2 => h.2 w'' (hs.trans h2)⟩
theorem PlanIn.only {R F : Nat → Prop} {w w' : World} {vh vr vt : Value} {L : Lay} (h : PlanIn R w vh vr vt L) (ho : Only F w w') (hd : ∀ k, R k → ¬ F k) : PlanIn R w' vh vr vt L :=
  h.same (fun k hk => ho.block k (h.1 k hk) (hd k hk)) ho.size

def lnV (x : RLn) (m : Value) : List Value := [.int .u8 x.ph, .int .i64 x.train, .bool x.been, m, .int .i64 x.gone, .int .i64 x.count]
def lnsV (l : List RLn) (ms : List Value) : List (List Value) := List.zipWith lnV l ms

/-- the box at block g: a plan read out of R; rows of its own, apart. -/
structure RM (w : World) (R : Nat → Prop) (g : Nat) (C : RBx) (vh vr vt vl vw vf vd va vq : Value) (ms : List Value) : Prop where
  box : w.heap[g]? = some (.cells #[.int .i64 C.L.T, .int .i64 C.L.D, .int .i64 C.L.Q, vh, vr, vt, vl, vw, vf, vd, va, vq] 159 (0, 0))
  plan : PlanIn R w vh vr vt C.L
  lines : w.ownsRow 0 161 6 vl C.lines.length (lnsV C.lines ms).flatten
  mlen : ms.length = C.lines.length
  marks : ∀ i (h : i < ms.length) (h' : i < C.lines.length), w.ownsRow 0 4 1 ms[i] C.lines[i].marks.length (boolsV C.lines[i].marks)
  wanted : w.ownsRow 0 5 1 vw C.wanted.length (bytsV C.wanted)
  failed : w.ownsRow 0 4 1 vf C.failed.length (boolsV C.failed)
  late : w.ownsRow 0 3 1 vd C.late.length (intsV C.late)
  sta : w.ownsRow 0 3 1 va C.sta.length (intsV C.sta)
  waits : w.ownsRow 0 3 1 vq C.waits.length (intsV C.waits)
  sfm : ∀ m, m ∈ ms → ∀ b, m.ownBlock = some b → vf.ownBlock ≠ some b
  smm : ∀ i j (hi : i < ms.length) (hj : j < ms.length), i ≠ j → ∀ b, ms[i].ownBlock = some b → ms[j].ownBlock ≠ some b
  sda : ∀ b, vd.ownBlock = some b → va.ownBlock ≠ some b
  sdq : ∀ b, vd.ownBlock = some b → vq.ownBlock ≠ some b
  saq : ∀ b, va.ownBlock = some b → vq.ownBlock ≠ some b
  out : ∀ b, (b = g ∨ vl.ownBlock = some b ∨ vw.ownBlock = some b ∨ vf.ownBlock = some b ∨ vd.ownBlock = some b ∨ va.ownBlock = some b ∨ vq.ownBlock = some b ∨ ∃ m, m ∈ ms ∧ m.ownBlock = some b) → ¬ R b

theorem lnsV_len (l : List RLn) (ms : List Value) (h : ms.length = l.length) : (lnsV l ms).length = l.length := by simp [lnsV, h]
theorem lnsV_six (l : List RLn) (ms : List Value) : ∀ c, c ∈ lnsV l ms → c.length = 6 := by
  intro c hc
  obtain ⟨i, hi, rfl⟩ := List.getElem_of_mem hc
  simp [lnsV, lnV]
theorem lnsV_get (l : List RLn) (ms : List Value) (i : Nat) (h : i < (lnsV l ms).length) (h1 : i < l.length) (h2 : i < ms.length) : (lnsV l ms)[i] = lnV l[i] ms[i] := by simp [lnsV]

theorem all2_zip {w : World} (l : List RLn) (ms : List Value) (hl : ms.length = l.length) (h : ∀ i (h : i < ms.length) (h' : i < l.length), Bools w ms[i] l[i].marks) : All2 (CRLn w) l (lnsV l ms) := by
  induction l generalizing ms with
  | nil => cases ms with
    | nil => trivial
    | cons a b => simp at hl
  | cons x l ih => cases ms with
    | nil => simp at hl
    | cons m ms =>
      refine ⟨⟨m, rfl, h 0 (by simp) (by simp)⟩, ih ms (by simpa using hl) (fun i h1 h2 => ?_)⟩
      have := h (i + 1) (by simp; omega) (by simp; omega)
      simpa using this
/-- what reads the box. -/
theorem RM.at {w : World} {R : Nat → Prop} {g : Nat} {C : RBx} {vh vr vt vl vw vf vd va vq : Value} {ms : List Value} (h : RM w R g C vh vr vt vl vw vf vd va vq ms) : RBoxAt w g C := by
  obtain ⟨p1, p2, p3⟩ := h.plan.2 w (fun _ _ => rfl)
  exact ⟨vh, vr, vt, vl, vw, vf, vd, va, vq, h.box, p1, p2, p3,
    SlAt.ofOwnN h.lines (all2_zip _ _ h.mlen (fun i a b => Bools.ofOwn (h.marks i a b) rfl)) (lnsV_six _ _) rfl,
    Byts.ofOwn h.wanted rfl, Bools.ofOwn h.failed rfl, Ints.ofOwn h.late rfl, Ints.ofOwn h.sta rfl, Ints.ofOwn h.waits rfl⟩

theorem own_other {w : World} {b : Nat} {e : TypeId} {sz : Nat} {v : Value} {n : Nat} {xs : List Value} (h : w.ownsRow b e sz v n xs) {a : Addr} (ha : v.ownBlock ≠ some a.block) (u : Value) : (w.setCell a u).ownsRow b e sz v n xs := by
  refine ⟨h.1, ?_⟩
  rcases h.2 with h2 | ⟨g, cap, cur, hv, hg, hh, r⟩
  · exact .inl h2
  · refine .inr ⟨g, cap, cur, hv, hg, ?_, r⟩
    rw [Below.heap_setCell _ _ _ _ (fun e => ha (by rw [hv]; simp [Value.ownBlock, e]))]; exact hh
theorem own_below {w w' : World} {b : Nat} {e : TypeId} {sz : Nat} {v : Value} {n : Nat} {xs : List Value} (h : w.ownsRow b e sz v n xs) (hb : Below w.heap.size w w') : w'.ownsRow b e sz v n xs := ownsRow_below h hb
theorem own_typed {w : World} {b : Nat} {e : TypeId} {sz : Nat} {v : Value} {n : Nat} {xs : List Value} (h : w.ownsRow b e sz v n xs) {k : Nat} (hk : v.ownBlock = some k) : Typed w k e := by
  rcases h.2 with ⟨rfl, -⟩ | ⟨g, cap, cur, rfl, hg, hh, r⟩
  · cases hk
  · simp only [Value.ownBlock, Option.some.injEq] at hk
    subst hk
    exact ⟨_, _, hh⟩

/-- memory beside it grows: the box stays. -/
theorem RM.below {w w' : World} {R : Nat → Prop} {g : Nat} {C : RBx} {vh vr vt vl vw vf vd va vq : Value} {ms : List Value} (h : RM w R g C vh vr vt vl vw vf vd va vq ms) (hb : Below w.heap.size w w') : RM w' R g C vh vr vt vl vw vf vd va vq ms :=
  { h with
    box := (hb.block g (blk_lt h.box)).trans h.box
    plan := h.plan.same (fun k hk => hb.block k (h.plan.1 k hk)) hb.size
    lines := own_below h.lines hb
    marks := fun i a b => own_below (h.marks i a b) hb
    wanted := own_below h.wanted hb
    failed := own_below h.failed hb
    late := own_below h.late hb
    sta := own_below h.sta hb
    waits := own_below h.waits hb }

theorem intsV_set (l : List Nat) (i x : Nat) : (intsV l).set i (.int .i64 x) = intsV (l.set i x) := by simp [intsV, List.map_set]
theorem bytsV_set (l : List Nat) (i x : Nat) : (bytsV l).set i (.int .u8 x) = bytsV (l.set i x) := by simp [bytsV, List.map_set]
theorem boolsV_set (l : List Bool) (i : Nat) (x : Bool) : (boolsV l).set i (.bool x) = boolsV (l.set i x) := by simp [boolsV, List.map_set]

theorem RM.setLate {w : World} {R : Nat → Prop} {g : Nat} {C : RBx} {vh vr vt vl vw vf va vq : Value} {ms : List Value} {gd n cap : Nat} (h : RM w R g C vh vr vt vl vw vf (.slice (some ⟨gd, 0, none⟩) n cap) va vq ms) (hn : n = C.late.length) (i x : Nat) :
    RM (w.setCell ⟨gd, i, none⟩ (.int .i64 x)) R g { C with late := C.late.set i x } vh vr vt vl vw vf (.slice (some ⟨gd, 0, none⟩) n cap) va vq ms := by
  subst hn
  have hT := own_typed h.late (k := gd) rfl
  have kk := fun e (n2 : 3 ≠ e) => Keeps.setCell ⟨gd, i, none⟩ (.int .i64 x) hT n2
  refine { h with box := ?_, plan := ?_, lines := ?_, marks := ?_, wanted := ?_, failed := ?_, late := ?_, sta := ?_, waits := ?_ }
  · exact (kk _ (by decide) _ _ _ h.box).trans h.box
  · exact h.plan.same (sameOn_setCell (h.out gd (.inr (.inr (.inr (.inr (.inl rfl))))))) (by simp [World.setCell])
  · exact ownsRow_keep h.lines (kk _ (by decide))
  · exact fun i a b => ownsRow_keep (h.marks i a b) (kk _ (by decide))
  · exact ownsRow_keep h.wanted (kk _ (by decide))
  · exact ownsRow_keep h.failed (kk _ (by decide))
  · have := (h.late.stored i (.int .i64 x)).1
    rw [intsV_set] at this
    simpa using this
  · exact own_other h.sta (h.sda gd rfl) _
  · exact own_other h.waits (h.sdq gd rfl) _
theorem RM.setFailed {w : World} {R : Nat → Prop} {g : Nat} {C : RBx} {vh vr vt vl vw vd va vq : Value} {ms : List Value} {gf n cap : Nat} (h : RM w R g C vh vr vt vl vw (.slice (some ⟨gf, 0, none⟩) n cap) vd va vq ms) (hn : n = C.failed.length) (i : Nat) (x : Bool) :
    RM (w.setCell ⟨gf, i, none⟩ (.bool x)) R g { C with failed := C.failed.set i x } vh vr vt vl vw (.slice (some ⟨gf, 0, none⟩) n cap) vd va vq ms := by
  subst hn
  have hT := own_typed h.failed (k := gf) rfl
  have kk := fun e (n2 : 4 ≠ e) => Keeps.setCell ⟨gf, i, none⟩ (.bool x) hT n2
  refine { h with box := ?_, plan := ?_, lines := ?_, marks := ?_, wanted := ?_, failed := ?_, late := ?_, sta := ?_, waits := ?_ }
  · exact (kk _ (by decide) _ _ _ h.box).trans h.box
  · exact h.plan.same (sameOn_setCell (h.out gf (.inr (.inr (.inr (.inl rfl)))))) (by simp [World.setCell])
  · exact ownsRow_keep h.lines (kk _ (by decide))
  · exact fun i a b => own_other (h.marks i a b) (fun e => h.sfm _ (List.getElem_mem a) gf e rfl) _
  · exact ownsRow_keep h.wanted (kk _ (by decide))
  · have := (h.failed.stored i (.bool x)).1
    rw [boolsV_set] at this
    simpa using this
  · exact ownsRow_keep h.late (kk _ (by decide))
  · exact ownsRow_keep h.sta (kk _ (by decide))
  · exact ownsRow_keep h.waits (kk _ (by decide))
theorem RM.setWanted {w : World} {R : Nat → Prop} {g : Nat} {C : RBx} {vh vr vt vl vf vd va vq : Value} {ms : List Value} {gw n cap : Nat} (h : RM w R g C vh vr vt vl (.slice (some ⟨gw, 0, none⟩) n cap) vf vd va vq ms) (hn : n = C.wanted.length) (i x : Nat) :
    RM (w.setCell ⟨gw, i, none⟩ (.int .u8 x)) R g { C with wanted := C.wanted.set i x } vh vr vt vl (.slice (some ⟨gw, 0, none⟩) n cap) vf vd va vq ms := by
  subst hn
  have hT := own_typed h.wanted (k := gw) rfl
  have kk := fun e (n2 : 5 ≠ e) => Keeps.setCell ⟨gw, i, none⟩ (.int .u8 x) hT n2
  refine { h with box := ?_, plan := ?_, lines := ?_, marks := ?_, wanted := ?_, failed := ?_, late := ?_, sta := ?_, waits := ?_ }
  · exact (kk _ (by decide) _ _ _ h.box).trans h.box
  · exact h.plan.same (sameOn_setCell (h.out gw (.inr (.inr (.inl rfl))))) (by simp [World.setCell])
  · exact ownsRow_keep h.lines (kk _ (by decide))
  · exact fun i a b => ownsRow_keep (h.marks i a b) (kk _ (by decide))
  · have := (h.wanted.stored i (.int .u8 x)).1
    rw [bytsV_set] at this
    simpa using this
  · exact ownsRow_keep h.failed (kk _ (by decide))
  · exact ownsRow_keep h.late (kk _ (by decide))
  · exact ownsRow_keep h.sta (kk _ (by decide))
  · exact ownsRow_keep h.waits (kk _ (by decide))
theorem RM.setSta {w : World} {R : Nat → Prop} {g : Nat} {C : RBx} {vh vr vt vl vw vf vd vq : Value} {ms : List Value} {ga n cap : Nat} (h : RM w R g C vh vr vt vl vw vf vd (.slice (some ⟨ga, 0, none⟩) n cap) vq ms) (hn : n = C.sta.length) (i x : Nat) :
    RM (w.setCell ⟨ga, i, none⟩ (.int .i64 x)) R g { C with sta := C.sta.set i x } vh vr vt vl vw vf vd (.slice (some ⟨ga, 0, none⟩) n cap) vq ms := by
  subst hn
  have hT := own_typed h.sta (k := ga) rfl
  have kk := fun e (n2 : 3 ≠ e) => Keeps.setCell ⟨ga, i, none⟩ (.int .i64 x) hT n2
  refine { h with box := ?_, plan := ?_, lines := ?_, marks := ?_, wanted := ?_, failed := ?_, late := ?_, sta := ?_, waits := ?_ }
  · exact (kk _ (by decide) _ _ _ h.box).trans h.box
  · exact h.plan.same (sameOn_setCell (h.out ga (.inr (.inr (.inr (.inr (.inr (.inl rfl)))))))) (by simp [World.setCell])
  · exact ownsRow_keep h.lines (kk _ (by decide))
  · exact fun i a b => ownsRow_keep (h.marks i a b) (kk _ (by decide))
  · exact ownsRow_keep h.wanted (kk _ (by decide))
  · exact ownsRow_keep h.failed (kk _ (by decide))
  · exact own_other h.late (fun e => h.sda ga e rfl) _
  · have := (h.sta.stored i (.int .i64 x)).1
    rw [intsV_set] at this
    simpa using this
  · exact own_other h.waits (h.saq ga rfl) _
end Go.Proofs.YtkbpocecbcaiiaaGreatDoor

/-
  A FRAME, READ OUT OF BLOCKS OF ITS OWN.
-/
namespace Go.Proofs.YtkbpocecbcaiiaaGreatDoor
open Go.RowKit

theorem own_same {P : Nat → Prop} {w w' : World} {b : Nat} {e : TypeId} {sz : Nat} {v : Value} {n : Nat} {xs : List Value} (h : w.ownsRow b e sz v n xs) (hs : SameOn P w w') (hP : ∀ k, v.ownBlock = some k → P k) : w'.ownsRow b e sz v n xs := by
  refine ⟨h.1, ?_⟩
  rcases h.2 with h2 | ⟨g, cap, cur, hv, hg, hh, r⟩
  · exact .inl h2
  · exact .inr ⟨g, cap, cur, hv, hg, (hs g (hP g (by rw [hv]; rfl))).trans hh, r⟩
def FrIn (P : Nat → Prop) (w : World) (v : Value) (f : Fr) : Prop := (∀ k, P k → k < w.heap.size) ∧ ∀ w', SameOn P w w' → FrAt w' v f
theorem FrIn.at {P : Nat → Prop} {w : World} {v : Value} {f : Fr} (h : FrIn P w v f) : FrAt w v f := h.2 w (fun _ _ => rfl)
theorem FrIn.only {P F : Nat → Prop} {w w' : World} {v : Value} {f : Fr} (h : FrIn P w v f) (ho : Only F w w') (hd : ∀ k, P k → ¬ F k) : FrIn P w' v f :=
  ⟨fun k hk => Nat.lt_of_lt_of_le (h.1 k hk) ho.size, fun w2 h2 => h.2 w2 (fun k hk => (h2 k hk).trans (ho.block k (h.1 k hk) (hd k hk)))⟩
theorem FrIn.below {P : Nat → Prop} {w w' : World} {v : Value} {f : Fr} (h : FrIn P w v f) (hb : Below w.heap.size w w') : FrIn P w' v f :=
  ⟨fun k hk => Nat.lt_of_lt_of_le (h.1 k hk) hb.size, fun w2 h2 => h.2 w2 (fun k hk => (h2 k hk).trans (hb.block k (h.1 k hk)))⟩
theorem fr_in {w : World} {B B0 : Nat} {vo vp : Value} {oc : List Bool} {re : List Nat} {c : ByteArray} (ho : w.ownsRow B 4 1 vo oc.length (boolsV oc)) (hp : w.ownsRow B 5 1 vp re.length (bytsV re)) (hB : B0 ≤ B) :
    FrIn (fun k => B0 ≤ k ∧ k < w.heap.size) w (.agg #[vo, vp, .string c]) ⟨oc, re, c⟩ :=
  ⟨fun k hk => hk.2, fun w' hs => ⟨vo, vp, rfl,
    Bools.ofOwn (own_same ho hs (fun k hk => by have := ho.lt k hk; exact ⟨by omega, this.2⟩)) rfl,
    Byts.ofOwn (own_same hp hs (fun k hk => by have := hp.lt k hk; exact ⟨by omega, this.2⟩)) rfl⟩⟩
end Go.Proofs.YtkbpocecbcaiiaaGreatDoor

/-
  STORES INTO A LINE OF THE DOCUMENT's BOX.
-/
namespace Go.Proofs.YtkbpocecbcaiiaaGreatDoor
open Go.RowKit

theorem flat_set (css : List (List Value)) (sz : Nat) (hl : ∀ c, c ∈ css → c.length = sz) : ∀ (i j : Nat) (hi : i < css.length) (u : Value), j < sz → css.flatten.set (i * sz + j) u = (css.set i (css[i].set j u)).flatten := by
  induction css with
  | nil => intro i j hi; simp at hi
  | cons c css ih =>
    intro i j hi u hj
    have hc := hl c (by simp)
    cases i with
    | zero => simp; rw [List.set_append_left _ _ (by omega)]
    | succ i =>
      have := ih (fun c hc => hl c (List.mem_cons_of_mem _ hc)) i j (by simpa using hi) u hj
      simp only [List.flatten_cons, List.set_cons_succ, List.getElem_cons_succ]
      rw [List.set_append_right _ _ (by rw [hc, Nat.succ_mul]; omega), hc, ← this]
      congr 2
      rw [Nat.succ_mul]; omega
theorem lnsV_set (l : List RLn) (ms : List Value) (r : Nat) (x : RLn) (m : Value) : lnsV (l.set r x) (ms.set r m) = (lnsV l ms).set r (lnV x m) := by
  unfold lnsV
  apply List.ext_getElem
  · simp
  · intro i h1 h2
    by_cases hi : r = i
    · subst hi; simp
    · simp [List.getElem_set_ne hi]
theorem set_self {α : Type} (l : List α) (r : Nat) (h : r < l.length) : l.set r l[r] = l := by simp

/-- one cell of a line, its marks' slice aside. -/
theorem RM.setLn {w : World} {R : Nat → Prop} {g : Nat} {C : RBx} {vh vr vt vw vf vd va vq : Value} {ms : List Value} {gl n cap : Nat} (h : RM w R g C vh vr vt (.slice (some ⟨gl, 0, none⟩) n cap) vw vf vd va vq ms) (hn : n = C.lines.length)
    (r : Nat) (hr : r < C.lines.length) (hrm : r < ms.length) (x : RLn) (j : Nat) (u : Value) (hj : j < 6) (hx : lnV x ms[r] = (lnV C.lines[r] ms[r]).set j u) (hm : x.marks = C.lines[r].marks) :
    RM (w.setCell ⟨gl, r * 6 + j, none⟩ u) R g { C with lines := C.lines.set r x } vh vr vt (.slice (some ⟨gl, 0, none⟩) n cap) vw vf vd va vq ms := by
  subst hn
  have hT := own_typed h.lines (k := gl) rfl
  have kk := fun e (n2 : 161 ≠ e) => Keeps.setCell ⟨gl, r * 6 + j, none⟩ u hT n2
  refine { h with box := ?_, plan := ?_, lines := ?_, mlen := ?_, marks := ?_, wanted := ?_, failed := ?_, late := ?_, sta := ?_, waits := ?_ }
  · exact (kk _ (by decide) _ _ _ h.box).trans h.box
  · exact h.plan.same (sameOn_setCell (h.out gl (.inr (.inl rfl)))) (by simp [World.setCell])
  · have h1 := (h.lines.stored (r * 6 + j) u).1
    have hlen := lnsV_len _ _ h.mlen
    rw [flat_set _ 6 (lnsV_six _ _) r j (by omega) u hj, lnsV_get _ _ r (by omega) hr hrm, ← hx, ← lnsV_set, set_self ms r hrm] at h1
    simpa using h1
  · simpa using h.mlen
  · intro i a b
    have b' : i < C.lines.length := by simpa using b
    have := ownsRow_keep (h.marks i a b') (kk _ (by decide))
    by_cases hi : r = i
    · subst hi
      simpa [hm] using this
    · simpa [List.getElem_set_ne hi] using this
  · exact ownsRow_keep h.wanted (kk _ (by decide))
  · exact ownsRow_keep h.failed (kk _ (by decide))
  · exact ownsRow_keep h.late (kk _ (by decide))
  · exact ownsRow_keep h.sta (kk _ (by decide))
  · exact ownsRow_keep h.waits (kk _ (by decide))

/-- a line's marks: another slice. -/
theorem RM.setMk {w : World} {R : Nat → Prop} {g : Nat} {C : RBx} {vh vr vt vw vf vd va vq : Value} {ms : List Value} {gl n cap : Nat} (h : RM w R g C vh vr vt (.slice (some ⟨gl, 0, none⟩) n cap) vw vf vd va vq ms) (hn : n = C.lines.length)
    (r : Nat) (hr : r < C.lines.length) (hrm : r < ms.length) (m : Value) (bs : List Bool) (hm : w.ownsRow 0 4 1 m bs.length (boolsV bs))
    (hR : ∀ b, m.ownBlock = some b → ¬ R b ∧ vf.ownBlock ≠ some b ∧ ∀ i (hi : i < ms.length), i ≠ r → ms[i].ownBlock ≠ some b) :
    RM (w.setCell ⟨gl, r * 6 + 3, none⟩ m) R g { C with lines := C.lines.set r { C.lines[r] with marks := bs } } vh vr vt (.slice (some ⟨gl, 0, none⟩) n cap) vw vf vd va vq (ms.set r m) := by
  subst hn
  have hT := own_typed h.lines (k := gl) rfl
  have kk := fun e (n2 : 161 ≠ e) => Keeps.setCell ⟨gl, r * 6 + 3, none⟩ m hT n2
  refine { box := ?_, plan := ?_, lines := ?_, mlen := ?_, marks := ?_, wanted := ?_, failed := ?_, late := ?_, sta := ?_, waits := ?_, sfm := ?_, smm := ?_, sda := h.sda, sdq := h.sdq, saq := h.saq, out := ?_ }
  · exact (kk _ (by decide) _ _ _ h.box).trans h.box
  · exact h.plan.same (sameOn_setCell (h.out gl (.inr (.inl rfl)))) (by simp [World.setCell])
  · have h1 := (h.lines.stored (r * 6 + 3) m).1
    have hlen := lnsV_len _ _ h.mlen
    rw [flat_set _ 6 (lnsV_six _ _) r 3 (by omega) m (by omega), lnsV_get _ _ r (by omega) hr hrm] at h1
    have e : (lnV C.lines[r] ms[r]).set 3 m = lnV { C.lines[r] with marks := bs } m := rfl
    rw [e, ← lnsV_set] at h1
    simpa using h1
  · simpa using h.mlen
  · intro i a b
    have a' : i < ms.length := by simpa using a
    have b' : i < C.lines.length := by simpa using b
    by_cases hi : r = i
    · subst hi
      simpa using ownsRow_keep hm (kk _ (by decide))
    · simpa [List.getElem_set_ne hi] using ownsRow_keep (h.marks i a' b') (kk _ (by decide))
  · exact ownsRow_keep h.wanted (kk _ (by decide))
  · exact ownsRow_keep h.failed (kk _ (by decide))
  · exact ownsRow_keep h.late (kk _ (by decide))
  · exact ownsRow_keep h.sta (kk _ (by decide))
  · exact ownsRow_keep h.waits (kk _ (by decide))
  · intro m' hm' b hb
    rcases List.mem_or_eq_of_mem_set hm' with h1 | h1
    · exact h.sfm m' h1 b hb
    · subst h1; exact (hR b hb).2.1
  · intro i j hi hj hij b hb
    have hi' : i < ms.length := by simpa using hi
    have hj' : j < ms.length := by simpa using hj
    by_cases h1 : r = i
    · subst h1
      rw [List.getElem_set_ne hij]
      simp only [List.getElem_set_self] at hb
      exact (hR b hb).2.2 j hj' (fun e => hij e.symm)
    · rw [List.getElem_set_ne h1] at hb
      by_cases h2 : r = j
      · subst h2
        simp only [List.getElem_set_self]
        intro hc
        exact (hR b hc).2.2 i hi' (fun e => h1 e.symm) hb
      · rw [List.getElem_set_ne h2]
        exact h.smm i j hi' hj' hij b hb
  · intro b hb
    rcases hb with hb | hb | hb | hb | hb | hb | hb | ⟨m', hm', hb⟩
    · exact h.out b (.inl hb)
    · exact h.out b (.inr (.inl hb))
    · exact h.out b (.inr (.inr (.inl hb)))
    · exact h.out b (.inr (.inr (.inr (.inl hb))))
    · exact h.out b (.inr (.inr (.inr (.inr (.inl hb)))))
    · exact h.out b (.inr (.inr (.inr (.inr (.inr (.inl hb))))))
    · exact h.out b (.inr (.inr (.inr (.inr (.inr (.inr (.inl hb)))))))
    · rcases List.mem_or_eq_of_mem_set hm' with h1 | h1
      · exact h.out b (.inr (.inr (.inr (.inr (.inr (.inr (.inr ⟨m', h1, hb⟩)))))))
      · subst h1; exact (hR b hb).1

/-- one mark of a line. -/
theorem RM.setM1 {w : World} {R : Nat → Prop} {g : Nat} {C : RBx} {vh vr vt vl vw vf vd va vq : Value} {ms : List Value} (h : RM w R g C vh vr vt vl vw vf vd va vq ms)
    (r : Nat) (hr : r < C.lines.length) (hrm : r < ms.length) {gm cap : Nat} (hms : ms[r] = .slice (some ⟨gm, 0, none⟩) C.lines[r].marks.length cap) (i : Nat) (x : Bool) :
    RM (w.setCell ⟨gm, i, none⟩ (.bool x)) R g { C with lines := C.lines.set r { C.lines[r] with marks := C.lines[r].marks.set i x } } vh vr vt vl vw vf vd va vq ms := by
  have hrow := h.marks r hrm hr
  rw [hms] at hrow
  have hT := own_typed hrow (k := gm) rfl
  have kk := fun e (n2 : 4 ≠ e) => Keeps.setCell ⟨gm, i, none⟩ (.bool x) hT n2
  have hmem : ms[r] ∈ ms := List.getElem_mem hrm
  have hob : ms[r].ownBlock = some gm := by rw [hms]; rfl
  refine { h with box := ?_, plan := ?_, lines := ?_, mlen := ?_, marks := ?_, wanted := ?_, failed := ?_, late := ?_, sta := ?_, waits := ?_ }
  · exact (kk _ (by decide) _ _ _ h.box).trans h.box
  · exact h.plan.same (sameOn_setCell (h.out gm (.inr (.inr (.inr (.inr (.inr (.inr (.inr ⟨_, hmem, hob⟩))))))))) (by simp [World.setCell])
  · have h1 := ownsRow_keep h.lines (kk _ (by decide))
    have e : lnsV (C.lines.set r { C.lines[r] with marks := C.lines[r].marks.set i x }) ms = lnsV C.lines ms := by
      have := lnsV_set C.lines ms r { C.lines[r] with marks := C.lines[r].marks.set i x } ms[r]
      rw [set_self ms r hrm] at this
      rw [this]
      have hlen := lnsV_len _ _ h.mlen
      have e2 : lnV { C.lines[r] with marks := C.lines[r].marks.set i x } ms[r] = (lnsV C.lines ms)[r]'(by omega) := by rw [lnsV_get _ _ r (by omega) hr hrm]; rfl
      rw [e2, set_self]
    rw [e]
    simpa using h1
  · simpa using h.mlen
  · intro k a b
    have b' : k < C.lines.length := by simpa using b
    by_cases hk : r = k
    · subst hk
      have := (hrow.stored i (.bool x)).1
      rw [boolsV_set] at this
      rw [hms]
      simpa using this
    · have := own_other (a := ⟨gm, i, none⟩) (h.marks k a b') (h.smm r k hrm a hk gm hob) (.bool x)
      simpa [List.getElem_set_ne hk] using this
  · exact ownsRow_keep h.wanted (kk _ (by decide))
  · exact own_other h.failed (h.sfm _ hmem gm hob) _
  · exact ownsRow_keep h.late (kk _ (by decide))
  · exact ownsRow_keep h.sta (kk _ (by decide))
  · exact ownsRow_keep h.waits (kk _ (by decide))
end Go.Proofs.YtkbpocecbcaiiaaGreatDoor
