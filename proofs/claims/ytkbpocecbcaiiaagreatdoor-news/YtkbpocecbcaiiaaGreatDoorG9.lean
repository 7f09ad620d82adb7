import Derived.Test.YtkbpocecbcaiiaaGreatDoorG8
import Derived.Test.YtkbpocecbcaiiaaGreatDoorG3
import Derived.Deep.DeepCutAuto
/-
  THE WALKS OVER plan: HasSection, HasSwitch, names, Last, RouteAt, isLast, inFlank.
-/
namespace Go.Proofs.YtkbpocecbcaiiaaGreatDoor
open Go.RowKit

def layBox (L : Lay) (vs vr vt : Value) : Obj := .cells #[.int .i64 L.T, .int .i64 L.D, .int .i64 L.Q, vs, vr, vt] 83
theorem lay_cells {w wr : World} {L : Lay} {vh vr vt : Value} (hb : Below (w.heap.size + 1) (w.alloc (layBox L vh vr vt)) wr) :
    wr.cell? ⟨w.heap.size, 0, none⟩ = some (.int .i64 L.T) ∧ wr.cell? ⟨w.heap.size, 1, none⟩ = some (.int .i64 L.D) ∧ wr.cell? ⟨w.heap.size, 2, none⟩ = some (.int .i64 L.Q) ∧
    wr.cell? ⟨w.heap.size, 3, none⟩ = some vh ∧ wr.cell? ⟨w.heap.size, 4, none⟩ = some vr ∧ wr.cell? ⟨w.heap.size, 5, none⟩ = some vt ∧ w.heap.size < wr.heap.size :=
  ⟨box_cell hb 0, box_cell hb 1, box_cell hb 2, box_cell hb 3, box_cell hb 4, box_cell hb 5, box_size hb⟩

set_option maxHeartbeats 400000 in
theorem HasSection_any (v : Value) (L : Lay) (x : Nat) (w : World) (h : CLay w v L) :
    Calls Tryz.prog 120 #[v, .int .i64 x] w fun e w' => e = .returned (.bool (decide (x < L.sw.length))) ∧ Below w.heap.size w w' := by
  obtain ⟨vs, vr, vt, rfl, hS, -, -⟩ := h
  obtain ⟨a1, d1, rfl, -, hm, -⟩ := SlAt.open hS
  unfold maxLen at hm
  clear hS
  have d : decide ((0 : Int) ≤ (x : Int)) = true := by simp
  generalize hz : decide (x < L.sw.length) = z
  have HZ := hide (show decide ((x : Int) < L.sw.length) = z by rw [← hz, decide_eq_decide]; omega)
  clear hz
  go_enter Tryz.func120, Tryz.ntmps120
  go_wp2
  all_goals
    go_ret
    exact ⟨ret_bool (by have := unhide HZ; first | exact this | (simp_all; done) | (simp_all; omega)), below_alloc _ _⟩

set_option maxHeartbeats 400000 in
theorem HasRoute_any (v : Value) (L : Lay) (x : Nat) (w : World) (h : CLay w v L) :
    Calls Tryz.prog 172 #[v, .int .i64 x] w fun e w' => e = .returned (.bool (decide (x < L.rts.length))) ∧ Below w.heap.size w w' := by
  obtain ⟨vs, vr, vt, rfl, -, hS, -⟩ := h
  obtain ⟨a1, d1, rfl, -, hm, -⟩ := SlAt.open hS
  unfold maxLen at hm
  clear hS
  have d : decide ((0 : Int) ≤ (x : Int)) = true := by simp
  generalize hz : decide (x < L.rts.length) = z
  have HZ := hide (show decide ((x : Int) < L.rts.length) = z by rw [← hz, decide_eq_decide]; omega)
  clear hz
  go_enter Tryz.func172, Tryz.ntmps172
  go_wp2
  all_goals
    go_ret
    exact ⟨ret_bool (by have := unhide HZ; first | exact this | (simp_all; done) | (simp_all; omega)), below_alloc _ _⟩

set_option maxHeartbeats 400000 in
theorem HasSwitch_any (v : Value) (L : Lay) (x : Nat) (w : World) (h : CLay w v L) :
    Calls Tryz.prog 80 #[v, .int .i64 x] w fun e w' => e = .returned (.bool (L.sw.getD x false)) ∧ Below w.heap.size w w' := by
  have HL := hide h
  obtain ⟨vs, vr, vt, rfl, hS, -, -⟩ := h
  obtain ⟨a1, d1, rfl, -, hm, h3⟩ := SlAt.open hS
  unfold maxLen at hm
  clear hS
  have H1 := hide (fun (wz : World) (hz : Below w.heap.size w wz) => HasSection_any _ L x wz ((unhide HL).below hz))
  by_cases hx : x < L.sw.length
  · obtain ⟨g, off, rfl, hg, cs, -, hC, hc⟩ := h3 x hx
    unfold CBool at hC
    subst hC
    have hc0 := hc 0 (by omega)
    simp at hc0
    have HZ := hide (sw_at L.sw x hx)
    rw [show decide (x < L.sw.length) = true from decide_eq_true hx] at H1
    have l0 : (0 : Int) ≤ x := by omega
    have l1 : (x : Int) < L.sw.length := by omega
    rw [unhide HZ]
    clear hc h3
    generalize L.sw[x] = z at *
    clear hx
    go_enter Tryz.func80, Tryz.ntmps80
    go_wp2_with fail
    refine (unhide H1 _ (below_alloc w (layBox L _ _ _))).mono ?_
    rintro e w1 ⟨rfl, hb⟩
    have hbx : Below (w.heap.size + 1) (w.alloc (layBox L (.slice (some ⟨g, off, none⟩) L.sw.length d1) vr vt)) w1 := hb.mono (by simp)
    obtain ⟨q0, q1, q2, q3, q4, q5, qs⟩ := lay_cells hbx
    rw [← (box_below hbx).cell (p := ⟨g, _, none⟩) hg] at hc0
    have HB := hide (box_below hbx)
    clear hb hbx
    go_wp2
    go_ret
    exact ⟨rfl, unhide HB⟩
  · have HZ := hide (show L.sw.getD x false = false by rw [List.getD_eq_getElem?_getD, List.getElem?_eq_none (by omega)]; rfl)
    rw [show decide (x < L.sw.length) = false from decide_eq_false hx] at H1
    rw [unhide HZ]
    clear h3 hx
    go_enter Tryz.func80, Tryz.ntmps80
    go_wp2_with fail
    refine (unhide H1 _ (below_alloc w (layBox L _ _ _))).mono ?_
    rintro e w1 ⟨rfl, hb⟩
    have HB := hide ((below_alloc w (layBox L (.slice a1 L.sw.length d1) vr vt)).trans (hb.mono (by simp)))
    clear hb
    go_wp2
    go_ret
    exact ⟨rfl, unhide HB⟩

set_option maxHeartbeats 400000 in
theorem names_any (v : Value) (l : List (Nat × Nat)) (x : Nat) (w : World) (h : Items w v l) :
    Calls Tryz.prog 122 #[v, .int .i64 x] w fun e w' => e = .returned (.bool (has l x)) ∧ Below w.heap.size w w' := by
  obtain ⟨ao, cap, rfl, h1, h2, h3⟩ := SlAt.open h
  clear h
  unfold maxLen at h2
  generalize hz : has l x = z
  have HZ := hide hz
  clear hz
  go_enter Tryz.func122, Tryz.ntmps122
  go_wp2
  go_loopw [9] (fun i wr => ∃ k : Nat, i = .int .i64 k ∧ k ≤ l.length ∧ (∀ j (hj : j < l.length), j < k → l[j].1 ≠ x) ∧ Below w.heap.size w wr) (fun i _ => l.length - (intOf i).toNat)
  case atStart => exact ⟨0, rfl, Nat.zero_le _, fun j _ h => by omega, Below.refl _ _⟩
  case round =>
    obtain ⟨k, rfl, hk, hno, hb⟩ := hrel
    have HNO := hide hno
    have HB := hide hb
    have hsz := hb.size
    clear hno
    by_cases hlt : k < l.length
    · obtain ⟨g, off, hao, hg, cs, -, hC, hc⟩ := h3 k hlt
      subst hao
      unfold CItem itemV at hC
      subst hC
      have hc0 := hc 0 (by omega)
      have hc1 := hc 1 (by omega)
      rw [← hb.cell (p := ⟨g, _, none⟩) hg] at hc0 hc1
      simp at hc0 hc1
      have hmem := hide (List.getElem_mem hlt)
      have HE := hide (show (secs l)[k]'(by simpa [secs] using hlt) = l[k].1 by simp [secs])
      have hgw : g < wr.heap.size := by omega
      clear hc h3 hb
      by_cases hx : l[k].1 = x
      · have HZ2 := hide (show z = true by
          rw [← unhide HZ, has, List.contains_iff_mem, secs, List.mem_map]
          exact ⟨l[k], unhide hmem, hx⟩)
        have d : ((l[k].1 : Int) == (x : Int)) = true := by simp; omega
        clear hx
        generalize l[k].1 = y at *
        generalize l[k].2 = u at *
        go_wp2
        go_ret
        exact ⟨ret_bool (unhide HZ2).symm, (unhide HB).alloc hsz _⟩
      · have HNK := hide (show ∀ j (hj : j < l.length), j < k + 1 → l[j].1 ≠ x by
          intro j hj hjk
          rcases Nat.lt_or_ge j k with h | h
          · exact unhide HNO j hj h
          · obtain rfl : j = k := by omega
            exact hx)
        have d : ((l[k].1 : Int) == (x : Int)) = false := by simp; omega
        clear hx HE
        obtain ⟨y, hy⟩ : ∃ y, y = l[k].1 := ⟨_, rfl⟩
        obtain ⟨u, hu⟩ : ∃ u, u = l[k].2 := ⟨_, rfl⟩
        rw [← hy] at d hc0
        rw [← hu] at hc1
        clear hy hu
        go_wp2
        exact ⟨⟨k + 1, by go_num, by omega, unhide HNK, (unhide HB).alloc hsz _⟩, by simp [intOf]; omega⟩
    · have HZ2 := hide (show z = false by
        rw [← unhide HZ, has]
        apply Bool.eq_false_iff.2
        intro hc
        rw [List.contains_iff_mem, secs, List.mem_map] at hc
        obtain ⟨y, hy, e⟩ := hc
        obtain ⟨j, hj, rfl⟩ := List.getElem_of_mem hy
        exact unhide HNO j hj (by omega) e)
      clear h3
      go_wp2
      go_ret
      exact ⟨ret_bool (unhide HZ2).symm, hb⟩
end Go.Proofs.YtkbpocecbcaiiaaGreatDoor

/-
  THE WALKS OVER plan: Last, RouteAt, isLast, inFlank, pathItemRight.
-/
namespace Go.Proofs.YtkbpocecbcaiiaaGreatDoor
open Go.RowKit

/-- the route's value: three cells. -/
def VRt (w : World) (v : Value) (r : Rt) : Prop := ∃ vp vf, v = .agg #[.int .i64 r.foot, vp, vf] ∧ Items w vp r.path ∧ Items w vf r.flank
theorem VRt.below {w w' : World} {v : Value} {r : Rt} (h : VRt w v r) (k : Below w.heap.size w w') : VRt w' v r := by
  obtain ⟨vp, vf, e, a, b⟩ := h
  exact ⟨vp, vf, e, a.keep (.below k), b.keep (.below k)⟩

set_option maxHeartbeats 400000 in
theorem Last_any (v : Value) (r : Rt) (w : World) (h : VRt w v r) (hne : r.path ≠ []) :
    Calls Tryz.prog 208 #[v] w fun e w' => e = .returned (.int .i64 (lastN r.path : Nat)) ∧ Below w.heap.size w w' := by
  obtain ⟨vp, vf, rfl, hP, -⟩ := h
  obtain ⟨ao, cap, rfl, h1, h2, h3⟩ := SlAt.open hP
  unfold maxLen at h2
  have hpos : 0 < r.path.length := List.length_pos_iff.2 hne
  have hlt : r.path.length - 1 < r.path.length := by omega
  obtain ⟨g, off, rfl, hg, cs, -, hC, hc⟩ := h3 _ hlt
  unfold CItem itemV at hC
  subst hC
  have hc0 := hc 0 (by omega)
  simp at hc0
  have hlast : lastN r.path = r.path[r.path.length - 1].1 := by
    unfold lastN
    rw [List.getLastD_eq_getLast?, List.getLast?_eq_getElem?, List.getElem?_eq_getElem hlt]; rfl
  rw [← hlast] at hc0
  clear hc h3 hP hlast hne
  have hz : ((r.path.length : Int) == 0) = false := beq_eq_false_iff_ne.2 (by omega)
  generalize r.path = p at *
  go_enter Tryz.func208, Tryz.ntmps208
  go_wp2
  go_ret
  exact ⟨rfl, below_alloc _ _⟩

theorem two_lay {w wr : World} {L : Lay} {vh vr vt : Value} {o2 : Obj} (hb : Below (w.heap.size + 2) ((w.alloc (layBox L vh vr vt)).alloc o2) wr) :
    wr.cell? ⟨w.heap.size, 0, none⟩ = some (.int .i64 L.T) ∧ wr.cell? ⟨w.heap.size, 1, none⟩ = some (.int .i64 L.D) ∧ wr.cell? ⟨w.heap.size, 2, none⟩ = some (.int .i64 L.Q) ∧
    wr.cell? ⟨w.heap.size, 3, none⟩ = some vh ∧ wr.cell? ⟨w.heap.size, 4, none⟩ = some vr ∧ wr.cell? ⟨w.heap.size, 5, none⟩ = some vt := by
  have h := blk1 w (layBox L vh vr vt) o2
  exact ⟨blk_cell hb (by omega) h 0, blk_cell hb (by omega) h 1, blk_cell hb (by omega) h 2, blk_cell hb (by omega) h 3, blk_cell hb (by omega) h 4, blk_cell hb (by omega) h 5⟩
/-- the second block: three cells. -/
theorem two_tri {w wr : World} {o1 : Obj} {c0 c1 c2 : Value} {t : TypeId} (hb : Below (w.heap.size + 2) ((w.alloc o1).alloc (.cells #[c0, c1, c2] t)) wr) :
    (wr.cell? ⟨w.heap.size + 1, 0, none⟩ = some c0 ∧ wr.cell? ⟨w.heap.size + 1, 1, none⟩ = some c1 ∧ wr.cell? ⟨w.heap.size + 1, 2, none⟩ = some c2) ∧
    (wr.frozen? ⟨w.heap.size + 1, 0, none⟩ = false ∧ wr.frozen? ⟨w.heap.size + 1, 1, none⟩ = false ∧ wr.frozen? ⟨w.heap.size + 1, 2, none⟩ = false) := by
  have h := blk2 w o1 (.cells #[c0, c1, c2] t)
  exact ⟨⟨blk_cell hb (by omega) h 0, blk_cell hb (by omega) h 1, blk_cell hb (by omega) h 2⟩, ⟨blk_free hb (by omega) h 0, blk_free hb (by omega) h 1, blk_free hb (by omega) h 2⟩⟩

set_option maxHeartbeats 400000 in
theorem RouteAt_any (v : Value) (L : Lay) (x : Nat) (w : World) (h : CLay w v L) :
    Calls Tryz.prog 209 #[v, .int .i64 x] w fun e w' => ∃ (t : Int) (a1 a2 : Option Addr) (n1 n2 c1 c2 : Nat), e = .returned (.tuple #[.agg #[.int .i64 t, .slice a1 n1 c1, .slice a2 n2 c2], .bool (decide (x < L.rts.length))]) ∧
      (x < L.rts.length → VRt w' (.agg #[.int .i64 t, .slice a1 n1 c1, .slice a2 n2 c2]) (L.rt x)) ∧ Below w.heap.size w w' := by
  have HL := hide h
  obtain ⟨vs, vr, vt, rfl, -, hR, -⟩ := h
  obtain ⟨ao, cap, rfl, -, hm, h3⟩ := SlAt.open hR
  have H1 := hide (fun (wz : World) (hz : Below w.heap.size w wz) => HasRoute_any _ L x wz ((unhide HL).below hz))
  unfold maxLen at hm
  clear hR
  by_cases hx : x < L.rts.length
  · obtain ⟨g, off, rfl, hg, cs, -, hC, hc⟩ := h3 x hx
    obtain ⟨vp, vf, rfl, hP, hF⟩ := hC
    have hc0 := hc 0 (by omega)
    have hc1 := hc 1 (by omega)
    have hc2 := hc 2 (by omega)
    simp at hc0 hc1 hc2
    have HV := hide (show VRt w (.agg #[.int .i64 L.rts[x].foot, vp, vf]) L.rts[x] from ⟨_, _, rfl, hP, hF⟩)
    obtain ⟨a1, d1, rfl, -, -, -⟩ := SlAt.open hP
    obtain ⟨a2, d2, rfl, -, -, -⟩ := SlAt.open hF
    rw [show decide (x < L.rts.length) = true from decide_eq_true hx] at H1 ⊢
    rw [rt_eq L x hx]
    have l0 : (0 : Int) ≤ x := by omega
    have l2 : (x : Int) < L.rts.length := by omega
    clear hc h3 hP hF HL
    generalize L.rts[x] = R at *
    go_enter Tryz.func209, Tryz.ntmps209
    go_wp2_with fail
    refine (unhide H1 _ (two_below (Below.refl _ _))).mono ?_
    rintro e w1 ⟨rfl, hb⟩
    have hb2 : Below (w.heap.size + 2) ((w.alloc (layBox L vs (.slice (some ⟨g, off, none⟩) L.rts.length cap) vt)).alloc (.cells #[.int .i64 0, .slice none 0 0, .slice none 0 0] 124)) w1 := hb.mono (by simp)
    obtain ⟨q0, q1, q2, q3, q4, q5⟩ := two_lay hb2
    obtain ⟨⟨z0, z1, z2⟩, ⟨y0, y1, y2⟩⟩ := two_tri hb2
    have hbw := two_below hb2
    rw [← hbw.cell (p := ⟨g, _, none⟩) hg] at hc0 hc1 hc2
    have hsz := two_size hb2
    have HB := hide hbw
    clear hb hb2 hbw H1
    go_wp2
    refine bodyPost_ret (v := .tuple #[.agg #[.int .i64 R.foot, .slice a1 R.path.length d1, .slice a2 R.flank.length d2], .bool true]) (by simp [results, Tryz.results209, go_sem, z0, z1, z2]) rfl ?_
    have hbf := (((unhide HB).setCell (p := ⟨w.heap.size + 1, 0, none⟩) (by simp) (.int .i64 R.foot)).setCell (p := ⟨w.heap.size + 1, 1, none⟩) (by simp) (.slice a1 R.path.length d1)).setCell (p := ⟨w.heap.size + 1, 2, none⟩) (by simp) (.slice a2 R.flank.length d2)
    first
      | exact ⟨_, _, _, _, _, _, _, rfl, (unhide HV).below hbf, hbf⟩
      | exact ⟨_, _, _, _, _, _, _, rfl, fun _ => (unhide HV).below hbf, hbf⟩
  · rw [show decide (x < L.rts.length) = false from decide_eq_false hx] at H1 ⊢
    have HX := hide hx
    clear h3 HL hx
    go_enter Tryz.func209, Tryz.ntmps209
    go_wp2_with fail
    refine (unhide H1 _ (two_below (Below.refl _ _))).mono ?_
    rintro e w1 ⟨rfl, hb⟩
    have hb2 : Below (w.heap.size + 2) ((w.alloc (layBox L vs (.slice ao L.rts.length cap) vt)).alloc (.cells #[.int .i64 0, .slice none 0 0, .slice none 0 0] 124)) w1 := hb.mono (by simp)
    obtain ⟨⟨z0, z1, z2⟩, ⟨y0, y1, y2⟩⟩ := two_tri hb2
    have hsz := two_size hb2
    have HB := hide (two_below hb2)
    clear hb hb2 H1
    go_wp2
    refine bodyPost_ret (v := .tuple #[.agg #[.int .i64 0, .slice none 0 0, .slice none 0 0], .bool false]) (by simp [results, Tryz.results209, go_sem, z0, z1, z2]) rfl ?_
    have hbf := (((unhide HB).setCell (p := ⟨w.heap.size + 1, 0, none⟩) (by simp) (.int .i64 0)).setCell (p := ⟨w.heap.size + 1, 1, none⟩) (by simp) (.slice none 0 0)).setCell (p := ⟨w.heap.size + 1, 2, none⟩) (by simp) (.slice none 0 0)
    exact ⟨_, _, _, _, _, _, _, rfl, fun h => absurd h (unhide HX), hbf⟩

set_option maxHeartbeats 1000000 in
theorem isLast_any (v : Value) (L : Lay) (x : Nat) (w : World) (h : CLay w v L) (hp : L.Paths) :
    Calls Tryz.prog 190 #[v, .int .i64 x] w fun e w' => e = .returned (.bool (L.endsB x)) ∧ Below w.heap.size w w' := by
  obtain ⟨vs, vr, vt, rfl, -, hR, -⟩ := h
  obtain ⟨ao, cap, rfl, h1, h2, h3⟩ := SlAt.open hR
  unfold maxLen at h2
  generalize hz : L.endsB x = z
  have HZ := hide hz
  have HP := hide hp
  clear hz hp hR
  go_enter Tryz.func190, Tryz.ntmps190
  go_wp2
  go_loopw [10] (fun i wr => ∃ k : Nat, i = .int .i64 k ∧ k ≤ L.rts.length ∧ (L.rts.take k).any (fun r => lastN r.path == x) = false ∧ Below w.heap.size w wr) (fun i _ => L.rts.length - (intOf i).toNat)
  case atStart => exact ⟨0, rfl, Nat.zero_le _, rfl, below_alloc _ _⟩
  case round =>
    obtain ⟨k, rfl, hk, hno, hb⟩ := hrel
    have HNO := hide hno
    have HB := hide hb
    have hsz := hb.size
    clear hno
    by_cases hlt : k < L.rts.length
    · obtain ⟨g, off, hao, hg, cs, -, hC, hc⟩ := h3 k hlt
      subst hao
      obtain ⟨vp, vf, rfl, hP, hF⟩ := hC
      have hc0 := hc 0 (by omega)
      have hc1 := hc 1 (by omega)
      have hc2 := hc 2 (by omega)
      rw [← hb.cell (p := ⟨g, _, none⟩) hg] at hc0 hc1 hc2
      simp at hc0 hc1 hc2
      have hgw : g < wr.heap.size := by omega
      have HV := hide (show VRt w (.agg #[.int .i64 L.rts[k].foot, vp, vf]) L.rts[k] from ⟨_, _, rfl, hP, hF⟩)
      have HA := hide (any_take (fun r => lastN r.path == x) L.rts k hlt)
      have hmem := hide (List.getElem_mem hlt)
      have HN := hide (unhide HP L.rts[k] (List.getElem_mem hlt))
      obtain ⟨a1, d1, rfl, -, -, -⟩ := SlAt.open hP
      obtain ⟨a2, d2, rfl, -, -, -⟩ := SlAt.open hF
      clear hc h3 hP hF hb
      generalize hRR : L.rts[k] = R at *
      clear hRR
      go_wp2_with fail
      refine (Last_any _ R _ ((unhide HV).below ((unhide HB).alloc hsz _)) (unhide HN)).mono ?_
      rintro e w2 ⟨rfl, hb2⟩
      have hb3 := hide (((unhide HB).alloc hsz (.cells #[.int .i64 R.foot, .slice a1 R.path.length d1, .slice a2 R.flank.length d2] 124)).trans (hb2.mono (by simp; omega)))
      clear hb2 hc0 hc1 hc2
      by_cases hx : lastN R.path = x
      · have HZ2 := hide (show z = true by
          rw [← unhide HZ, Lay.endsB, List.any_eq_true]
          exact ⟨R, unhide hmem, by simpa using hx⟩)
        have d : ((lastN R.path : Int) == (x : Int)) = true := by simp; omega
        clear hx
        go_wp2
        go_ret
        exact ⟨ret_bool (unhide HZ2).symm, unhide hb3⟩
      · have d : ((lastN R.path : Int) == (x : Int)) = false := by simp; omega
        have HX := hide (show (lastN R.path == x) = false by simpa using hx)
        clear hx
        go_wp2
        exact ⟨⟨k + 1, by go_num, by omega, by rw [unhide HA, unhide HNO, unhide HX]; rfl, unhide hb3⟩, by simp [intOf]; omega⟩
    · have HZ2 := hide (show z = false by rw [← unhide HZ, Lay.endsB, ← unhide HNO, List.take_of_length_le (by omega)])
      clear h3
      go_wp2
      go_ret
      exact ⟨ret_bool (unhide HZ2).symm, hb⟩

set_option maxHeartbeats 1000000 in
theorem inFlank_any (v : Value) (L : Lay) (x : Nat) (w : World) (h : CLay w v L) :
    Calls Tryz.prog 191 #[v, .int .i64 x] w fun e w' => e = .returned (.bool (L.flankedB x)) ∧ Below w.heap.size w w' := by
  obtain ⟨vs, vr, vt, rfl, -, hR, -⟩ := h
  obtain ⟨ao, cap, rfl, h1, h2, h3⟩ := SlAt.open hR
  unfold maxLen at h2
  generalize hz : L.flankedB x = z
  have HZ := hide hz
  clear hz hR
  go_enter Tryz.func191, Tryz.ntmps191
  go_wp2
  go_loopw [10] (fun i wr => ∃ k : Nat, i = .int .i64 k ∧ k ≤ L.rts.length ∧ (L.rts.take k).any (fun r => has r.flank x) = false ∧ Below w.heap.size w wr) (fun i _ => L.rts.length - (intOf i).toNat)
  case atStart => exact ⟨0, rfl, Nat.zero_le _, rfl, below_alloc _ _⟩
  case round =>
    obtain ⟨k, rfl, hk, hno, hb⟩ := hrel
    have HNO := hide hno
    have HB := hide hb
    have hsz := hb.size
    clear hno
    by_cases hlt : k < L.rts.length
    · obtain ⟨g, off, hao, hg, cs, -, hC, hc⟩ := h3 k hlt
      subst hao
      obtain ⟨vp, vf, rfl, hP, hF⟩ := hC
      have hc0 := hc 0 (by omega)
      have hc1 := hc 1 (by omega)
      have hc2 := hc 2 (by omega)
      rw [← hb.cell (p := ⟨g, _, none⟩) hg] at hc0 hc1 hc2
      simp at hc0 hc1 hc2
      have hgw : g < wr.heap.size := by omega
      have HFl := hide (show Items w vf L.rts[k].flank from hF)
      have HA := hide (any_take (fun r => has r.flank x) L.rts k hlt)
      have hmem := hide (List.getElem_mem hlt)
      obtain ⟨a1, d1, rfl, -, -, -⟩ := SlAt.open hP
      obtain ⟨a2, d2, rfl, -, -, -⟩ := SlAt.open hF
      clear hc h3 hP hF hb
      generalize hRR : L.rts[k] = R at *
      clear hRR
      go_wp2_with fail
      refine (names_any _ R.flank x _ ((unhide HFl).keep (Keeps.below ((unhide HB).alloc hsz _)))).mono ?_
      rintro e w2 ⟨rfl, hb2⟩
      have hb3 := hide (((unhide HB).alloc hsz (.cells #[.int .i64 R.foot, .slice a1 R.path.length d1, .slice a2 R.flank.length d2] 124)).trans (hb2.mono (by simp; omega)))
      clear hb2 hc0 hc1 hc2
      cases hx : has R.flank x with
      | true =>
        have HZ2 := hide (show z = true by
          rw [← unhide HZ, Lay.flankedB, List.any_eq_true]
          exact ⟨R, unhide hmem, hx⟩)
        clear hx
        go_wp2
        go_ret
        exact ⟨ret_bool (unhide HZ2).symm, unhide hb3⟩
      | false =>
        have HX := hide hx
        clear hx
        go_wp2
        exact ⟨⟨k + 1, by go_num, by omega, by rw [unhide HA, unhide HNO, unhide HX]; rfl, unhide hb3⟩, by simp [intOf]; omega⟩
    · have HZ2 := hide (show z = false by rw [← unhide HZ, Lay.flankedB, ← unhide HNO, List.take_of_length_le (by omega)])
      clear h3
      go_wp2
      go_ret
      exact ⟨ret_bool (unhide HZ2).symm, hb⟩
end Go.Proofs.YtkbpocecbcaiiaaGreatDoor

/-
  THE WALKS OVER plan: pathItemRight, journeyRight.
-/
namespace Go.Proofs.YtkbpocecbcaiiaaGreatDoor
open Go.RowKit

def Lay.itemOK (L : Lay) (x : Nat × Nat) : Bool := decide (x.1 < L.sw.length) && (L.sw.getD x.1 false == (x.2 != 0))

set_option maxHeartbeats 400000 in
theorem pathItemRight_any (v : Value) (L : Lay) (x : Nat × Nat) (w : World) (h : CLay w v L) :
    Calls Tryz.prog 189 #[v, .agg #[.int .i64 x.1, .int .u8 x.2]] w fun e w' => e = .returned (.bool (L.itemOK x)) ∧ Below w.heap.size w w' := by
  have H1 := hide (fun (wz : World) (hz : Below w.heap.size w wz) => HasSection_any _ L x.1 wz (h.below hz))
  have H2 := hide (fun (wz : World) (hz : Below w.heap.size w wz) => HasSwitch_any _ L x.1 wz (h.below hz))
  obtain ⟨vs, vr, vt, rfl, -, -, -⟩ := h
  obtain ⟨x1, x2⟩ := x
  simp only [Lay.itemOK] at H1 H2 ⊢
  generalize hsn : L.sw.getD x1 false = sb at *
  have HSN := hide hsn
  clear hsn
  cases hd : decide (x1 < L.sw.length) with
  | false =>
    rw [hd] at H1
    clear hd
    rw [Bool.false_and]
    go_enter Tryz.func189, Tryz.ntmps189
    go_wp2_with fail
    refine (unhide H1 _ (two_below (o1 := layBox L vs vr vt) (Below.refl _ _))).mono ?_
    rintro e w1 ⟨rfl, hb⟩
    have HB := hide ((two_below (o1 := layBox L vs vr vt) (o2 := .cells #[.int .i64 x1, .int .u8 x2] 196) (Below.refl _ _)).trans (hb.mono (by simp; omega)))
    clear hb
    go_wp2
    go_ret
    exact ⟨rfl, unhide HB⟩
  | true =>
    rw [hd] at H1
    clear hd
    rw [Bool.true_and]
    by_cases h0 : x2 = 0
    · have d : ((x2 : Int) != 0) = false := by simp [h0]
      have e2 : (x2 != 0) = false := by simp [h0]
      rw [e2]
      clear h0 e2
      go_enter Tryz.func189, Tryz.ntmps189
      go_wp2_with fail
      refine (unhide H1 _ (two_below (o1 := layBox L vs vr vt) (Below.refl _ _))).mono ?_
      rintro e w1 ⟨rfl, hb⟩
      have hbx : Below (w.heap.size + 2) ((w.alloc (layBox L vs vr vt)).alloc (.cells #[.int .i64 x1, .int .u8 x2] 196)) w1 := hb.mono (by simp)
      have h1 := blk1 w (layBox L vs vr vt) (.cells #[.int .i64 x1, .int .u8 x2] 196)
      have h2 := blk2 w (layBox L vs vr vt) (.cells #[.int .i64 x1, .int .u8 x2] 196)
      obtain ⟨⟨q0, q1, q2, q3, q4, q5⟩, -, -⟩ := six0 ((hbx.block _ (by omega)).trans h1)
      obtain ⟨⟨y0, y1⟩, -, -⟩ := duo0 ((hbx.block _ (by omega)).trans h2)
      have HB := hide (two_below hbx)
      clear hb hbx h1 h2
      go_wp2_with fail
      refine (unhide H2 _ (unhide HB)).mono ?_
      rintro e w2 ⟨rfl, hb2⟩
      have HB2 := hide ((unhide HB).trans (hb2.mono (unhide HB).size))
      clear hb2
      cases sb
      all_goals
        go_wp2
        go_ret
        exact ⟨rfl, unhide HB2⟩
    · have d : ((x2 : Int) != 0) = true := by simp; omega
      have e2 : (x2 != 0) = true := by simp [h0]
      rw [e2]
      clear h0 e2
      go_enter Tryz.func189, Tryz.ntmps189
      go_wp2_with fail
      refine (unhide H1 _ (two_below (o1 := layBox L vs vr vt) (Below.refl _ _))).mono ?_
      rintro e w1 ⟨rfl, hb⟩
      have hbx : Below (w.heap.size + 2) ((w.alloc (layBox L vs vr vt)).alloc (.cells #[.int .i64 x1, .int .u8 x2] 196)) w1 := hb.mono (by simp)
      have h1 := blk1 w (layBox L vs vr vt) (.cells #[.int .i64 x1, .int .u8 x2] 196)
      have h2 := blk2 w (layBox L vs vr vt) (.cells #[.int .i64 x1, .int .u8 x2] 196)
      obtain ⟨⟨q0, q1, q2, q3, q4, q5⟩, -, -⟩ := six0 ((hbx.block _ (by omega)).trans h1)
      obtain ⟨⟨y0, y1⟩, -, -⟩ := duo0 ((hbx.block _ (by omega)).trans h2)
      have HB := hide (two_below hbx)
      clear hb hbx h1 h2
      go_wp2_with fail
      refine (unhide H2 _ (unhide HB)).mono ?_
      rintro e w2 ⟨rfl, hb2⟩
      have HB2 := hide ((unhide HB).trans (hb2.mono (unhide HB).size))
      clear hb2
      cases sb
      all_goals
        go_wp2
        go_ret
        exact ⟨rfl, unhide HB2⟩

/-- a train's value. -/
def VTn (w : World) (v : Value) (t : Tn) : Prop := ∃ vj, v = .agg #[.int .i64 t.start, vj] ∧ Ints w vj t.jny
theorem VTn.below {w w' : World} {v : Value} {t : Tn} (h : VTn w v t) (k : Below w.heap.size w w') : VTn w' v t := by
  obtain ⟨vj, e, a⟩ := h
  exact ⟨vj, e, a.keep (.below k)⟩

set_option maxHeartbeats 1000000 in
theorem journeyRight_any (v vt : Value) (L : Lay) (t : Tn) (w : World) (h : CLay w v L) (ht : VTn w vt t) (hp : L.Paths) :
    Calls Tryz.prog 192 #[v, vt] w fun e w' => e = .returned (.bool (L.joins t.start t.jny)) ∧ Below w.heap.size w w' := by
  have HL := hide h
  obtain ⟨vs, vr, vtt, rfl, -, -, -⟩ := h
  obtain ⟨vj, rfl, hJ⟩ := ht
  obtain ⟨aj, cj, rfl, h1, h2, h3⟩ := SlAt.open hJ
  unfold maxLen at h2
  generalize hz : L.joins t.start t.jny = z
  have HZ := hide hz
  have HP := hide hp
  clear hz hp hJ
  go_enter Tryz.func192, Tryz.ntmps192
  go_wp2
  go_loopw [5, 15] (fun f i wr => ∃ k s : Nat, i = .int .i64 k ∧ f = .int .i64 s ∧ k ≤ t.jny.length ∧ z = L.joins s (t.jny.drop k) ∧
      Below (w.heap.size + 2) ((w.alloc (layBox L vs vr vtt)).alloc (.cells #[.int .i64 t.start, .slice aj t.jny.length cj] 218)) wr) (fun _ i _ => t.jny.length - (intOf i).toNat)
  case atStart => exact ⟨0, t.start, rfl, rfl, Nat.zero_le _, (unhide HZ).symm, Below.refl _ _⟩
  case round =>
    obtain ⟨k, s, rfl, rfl, hk, hq, hb⟩ := hrel
    have HQ := hide hq
    have HB := hide hb
    have qs := two_size hb
    have b1 := blk1 w (layBox L vs vr vtt) (.cells #[.int .i64 t.start, .slice aj t.jny.length cj] 218)
    obtain ⟨⟨q0, q1, q2, q3, q4, q5⟩, -, -⟩ := six0 ((hb.block _ (by omega)).trans b1)
    clear hq b1
    by_cases hlt : k < t.jny.length
    · obtain ⟨g, off, hao, hg, cs, -, hC, hc⟩ := h3 k hlt
      subst hao
      unfold CInt at hC
      subst hC
      have hc0 := hc 0 (by omega)
      rw [← (two_below hb).cell (p := ⟨g, _, none⟩) hg] at hc0
      simp at hc0
      have HJ := hide (show L.joins s (t.jny.drop k) = (decide (t.jny[k] < L.rts.length) && (L.rt t.jny[k]).foot == s && L.joins (L.endOf t.jny[k]) (t.jny.drop (k + 1))) by
        rw [List.drop_eq_getElem_cons hlt]; rfl)
      clear hc h3 hb
      generalize t.jny[k] = x at *
      have H1 := hide (RouteAt_any _ L x wr ((unhide HL).below (two_below (unhide HB))))
      go_wp2_with fail
      refine (unhide H1).mono ?_
      rintro e w1 ⟨tt, a1, a2, n1, n2, c1, c2, rfl, hV, hb1⟩
      have HV := hide hV
      have HB1 := hide ((unhide HB).trans (hb1.mono (B' := w.heap.size + 2) (by omega)))
      have hz1 := hb1.size
      clear hV hb1 hc0 q0 q1 q2 q3 q4 q5
      by_cases hx : x < L.rts.length
      · have hv := unhide HV hx
        obtain ⟨vp, vf, he, hI1, hI2⟩ := hv
        simp only [Value.agg.injEq, Array.mk.injEq, List.cons.injEq, and_true, Value.int.injEq, true_and] at he
        obtain ⟨rfl, rfl, rfl⟩ := he
        have HVV := hide (show VRt w1 (.agg #[.int .i64 (L.rt x).foot, .slice a1 n1 c1, .slice a2 n2 c2]) (L.rt x) from ⟨_, _, rfl, hI1, hI2⟩)
        have HNE := hide (unhide HP (L.rt x) (by rw [rt_eq L x hx]; exact List.getElem_mem hx))
        have hd : decide (x < L.rts.length) = true := decide_eq_true hx
        rw [hd]
        rw [hd, Bool.true_and] at HJ
        have HEND := hide (show L.endOf x = lastN (L.rt x).path from rfl)
        clear hI1 hI2 HV hd hx
        generalize L.rt x = R at *
        by_cases hfo : R.foot = s
        · have d : ((R.foot : Int) != (s : Int)) = false := by simp; omega
          have HQ2 := hide (show z = L.joins (lastN R.path) (t.jny.drop (k + 1)) by rw [unhide HQ, unhide HJ, unhide HEND]; simp [hfo])
          clear hfo
          go_wp2_with fail
          refine (Last_any _ R _ ((unhide HVV).below (below_alloc _ _)) (unhide HNE)).mono ?_
          rintro e w2 ⟨rfl, hb2⟩
          have hb3 := (((unhide HB1).alloc (by omega) (.cells #[.int .i64 R.foot, .slice a1 n1 c1, .slice a2 n2 c2] 124))).trans (hb2.mono (B' := w.heap.size + 2) (by simp; omega))
          clear hb2
          go_wp2
          exact ⟨⟨k + 1, lastN R.path, by go_num, rfl, by omega, unhide HQ2, hb3⟩, by simp [intOf]; omega⟩
        · have d : ((R.foot : Int) != (s : Int)) = true := by simp; omega
          have HZ2 := hide (show z = false by rw [unhide HQ, unhide HJ]; simp [hfo])
          clear hfo
          go_wp2
          go_ret
          exact ⟨ret_bool (unhide HZ2).symm, two_below ((unhide HB1).alloc (by omega) _)⟩
      · have hd : decide (x < L.rts.length) = false := decide_eq_false hx
        rw [hd]
        have HZ2 := hide (show z = false by rw [unhide HQ, unhide HJ, hd]; rfl)
        clear hd hx HV
        go_wp2
        go_ret
        exact ⟨ret_bool (unhide HZ2).symm, two_below ((unhide HB1).alloc (by omega) _)⟩
    · have HZ2 := hide (show z = true by rw [unhide HQ, List.drop_of_length_le (by omega)]; rfl)
      have hb3 := two_below (unhide HB)
      clear h3 hb
      go_wp2
      go_ret
      exact ⟨ret_bool (unhide HZ2).symm, hb3⟩
end Go.Proofs.YtkbpocecbcaiiaaGreatDoor

/-
  THE WALK OVER plan: routeRight.
-/
namespace Go.Proofs.YtkbpocecbcaiiaaGreatDoor
open Go.RowKit

def Lay.pOK (L : Lay) (r : Rt) (i : Nat) : Bool := L.itemOK (r.path.getD i (0, 0)) && !((r.path.getD i (0, 0)).1 == r.foot) && !has (r.path.take i) (r.path.getD i (0, 0)).1
def Lay.fOK (L : Lay) (r : Rt) (i : Nat) : Bool := !has r.path (r.flank.getD i (0, 0)).1 && !has (r.flank.take i) (r.flank.getD i (0, 0)).1 && (L.sw.getD (r.flank.getD i (0, 0)).1 false && !L.endsB (r.flank.getD i (0, 0)).1)
def Lay.routeOK (L : Lay) (r : Rt) : Bool := decide (r.foot < L.sw.length) && (List.range r.path.length).all (L.pOK r) && (List.range r.flank.length).all (L.fOK r)

theorem Items.take {w : World} {ao : Option Addr} {n c : Nat} {l : List (Nat × Nat)} (h : Items w (.slice ao n c) l) (i : Nat) (hi : i ≤ l.length) : Items w (.slice ao i c) (l.take i) := by
  obtain ⟨ao', cap', he, h1, h2, h3⟩ := h
  simp only [Value.slice.injEq] at he
  obtain ⟨rfl, rfl, rfl⟩ := he
  have hl : (l.take i).length = i := by simp; omega
  refine ⟨ao, c, by rw [hl], by omega, h2, ?_⟩
  rcases h3 with h3 | ⟨g, off, cur, fr, ha, hg, hc⟩
  · left; rw [h3]; simp
  · right
    refine ⟨g, off, cur, fr, ha, hg, fun j hj => ?_⟩
    obtain ⟨cs, a, b, d⟩ := hc j (by omega)
    refine ⟨cs, a, ?_, d⟩
    rw [List.getElem_take]; exact b
theorem getDp (l : List (Nat × Nat)) (i : Nat) (h : i < l.length) : l.getD i (0, 0) = l[i] := by
  simp [List.getD_eq_getElem?_getD, List.getElem?_eq_getElem h]
theorem all_range_true' (p : Nat → Bool) (n : Nat) (h : ∀ o, o < n → p o = true) : (List.range n).all p = true := by
  rw [List.all_eq_true]; intro x hx; exact h x (List.mem_range.1 hx)
theorem all_range_false' (p : Nat → Bool) (n o : Nat) (ho : o < n) (h : p o = false) : (List.range n).all p = false := by
  rw [List.all_eq_false]; exact ⟨o, List.mem_range.2 ho, by simp [h]⟩

set_option maxHeartbeats 4000000 in
theorem routeRight_any (v vr0 : Value) (L : Lay) (r : Rt) (w : World) (h : CLay w v L) (hr : VRt w vr0 r) (hp : L.Paths) :
    Calls Tryz.prog 158 #[v, vr0] w fun e w' => e = .returned (.bool (L.routeOK r)) ∧ Below w.heap.size w w' := by
  have HL := hide h
  obtain ⟨vs, vr, vt, rfl, -, -, -⟩ := h
  obtain ⟨vp, vf, rfl, hP, hF⟩ := hr
  have HIP := hide hP
  have HIF := hide hF
  obtain ⟨ap, cp, rfl, p1, p2, p3⟩ := SlAt.open hP
  obtain ⟨af, cf, rfl, f1, f2, f3⟩ := SlAt.open hF
  unfold maxLen at p2 f2
  have HP := hide hp
  generalize hz : L.routeOK r = z
  have HZ := hide hz
  clear hz hP hF hp
  have H0 := hide (fun (wz : World) (hz : Below w.heap.size w wz) => HasSection_any _ L r.foot wz ((unhide HL).below hz))
  go_enter Tryz.func158, Tryz.ntmps158
  go_wp2_with fail
  refine (unhide H0 _ (two_below (o1 := layBox L vs vr vt) (Below.refl _ _))).mono ?_
  rintro e w1 ⟨rfl, hb1⟩
  have HB := hide (show Below (w.heap.size + 2) ((w.alloc (layBox L vs vr vt)).alloc (.cells #[.int .i64 r.foot, .slice ap r.path.length cp, .slice af r.flank.length cf] 124)) w1 from hb1.mono (by simp))
  clear hb1 H0
  cases hft : decide (r.foot < L.sw.length) with
  | false =>
    have HZ2 := hide (show z = false by rw [← unhide HZ, Lay.routeOK, hft]; rfl)
    clear hft p3 f3
    go_wp2
    go_ret
    exact ⟨ret_bool (unhide HZ2).symm, two_below (unhide HB)⟩
  | true =>
    have HZ1 := hide (show z = ((List.range r.path.length).all (L.pOK r) && (List.range r.flank.length).all (L.fOK r)) by rw [← unhide HZ, Lay.routeOK, hft, Bool.true_and])
    clear hft HZ
    have b1 := blk1 w (layBox L vs vr vt) (.cells #[.int .i64 r.foot, .slice ap r.path.length cp, .slice af r.flank.length cf] 124)
    have b2 := blk2 w (layBox L vs vr vt) (.cells #[.int .i64 r.foot, .slice ap r.path.length cp, .slice af r.flank.length cf] 124)
    have BB := hide (And.intro b1 b2)
    clear b1 b2
    go_wp2
    go_loopg [5] r.path.length (fun n i wr => ∃ k : Nat, i = .int .i64 k ∧ n + k = r.path.length ∧ (∀ j, j < k → L.pOK r j = true) ∧
        Below (w.heap.size + 2) ((w.alloc (layBox L vs vr vt)).alloc (.cells #[.int .i64 r.foot, .slice ap r.path.length cp, .slice af r.flank.length cf] 124)) wr)
    case atStart => exact ⟨0, rfl, by omega, fun j h => by omega, unhide HB⟩
    case round =>
      clear HB
      obtain ⟨k, rfl, hk, hno, hb⟩ := hrel
      have HK := hide hk
      have HNO := hide hno
      have HB := hide hb
      have qs := two_size hb
      have hk' : k ≤ r.path.length := by omega
      obtain ⟨⟨q0, q1, q2, q3, q4, q5⟩, -, -⟩ := six0 ((hb.block _ (by omega)).trans (unhide BB).1)
      obtain ⟨⟨y0, y1, y2⟩, -, -⟩ := tri0 ((hb.block _ (by omega)).trans (unhide BB).2)
      clear hk hno
      by_cases hlt : k < r.path.length
      · obtain ⟨g, off, hao, hg, cs, -, hC, hc⟩ := p3 k hlt
        subst hao
        unfold CItem itemV at hC
        subst hC
        have hc0 := hc 0 (by omega)
        have hc1 := hc 1 (by omega)
        have HCW := hide (And.intro hc0 hc1)
        rw [← (two_below hb).cell (p := ⟨g, _, none⟩) hg] at hc0 hc1
        simp at hc0 hc1 HCW
        have hgw : g < wr.heap.size := by have := two_size hb; omega
        have HPOK := hide (show L.pOK r k = (L.itemOK r.path[k] && !(r.path[k].1 == r.foot) && !has (r.path.take k) r.path[k].1) by rw [Lay.pOK, getDp _ _ hlt])
        have HTK := hide (fun (wz : World) (hz : Below w.heap.size w wz) => names_any _ (r.path.take k) r.path[k].1 wz ((Items.take (unhide HIP) k hk').keep (Keeps.below hz)))
        have HIT := hide (fun (wz : World) (hz : Below w.heap.size w wz) => pathItemRight_any _ L r.path[k] wz ((unhide HL).below hz))
        have l0 : (0 : Int) ≤ k := by omega
        have l1 : (k : Int) < r.path.length := by omega
        clear hc p3 hb
        generalize r.path[k] = x at *
        obtain ⟨x1, x2⟩ := x
        simp only at hc0 hc1 HPOK HTK HIT HCW
        generalize L.itemOK (x1, x2) = ok at *
        generalize hhs : has (r.path.take k) x1 = hs at *
        clear hhs
        go_wp2
        go_cut [28] (fun u wx => u = .bool (!ok) ∧ Below (w.heap.size + 2) ((w.alloc (layBox L vs vr vt)).alloc (.cells #[.int .i64 r.foot, .slice (some ⟨g, off, none⟩) r.path.length cp, .slice af r.flank.length cf] 124)) wx)
        case first =>
          go_region_with (go_at_call 189; refine (unhide HIT _ ?_).mono ?_; exact (two_below (unhide HB)).drew; rintro e w3 ⟨rfl, hb3⟩)
          all_goals
            have hbx3 := hide (((unhide HB).drew).trans (hb3.mono (B' := w.heap.size + 2) (by show w.heap.size + 2 ≤ wr.heap.size; omega)))
            clear hb3
            go_wp2_with fail
            go_meet
            exact ⟨rfl, unhide hbx3⟩
        case rest =>
          obtain ⟨rfl, hb⟩ := hcut
          clear HB qs q0 q1 q2 q3 q4 q5 y0 y1 y2
          have HB := hide hb
          have qs := two_size hb
          obtain ⟨⟨q0, q1, q2, q3, q4, q5⟩, -, -⟩ := six0 ((hb.block _ (by omega)).trans (unhide BB).1)
          obtain ⟨⟨y0, y1, y2⟩, -, -⟩ := tri0 ((hb.block _ (by omega)).trans (unhide BB).2)
          have hg0 := (two_below hb).cell (p := ⟨g, off + k * 2, none⟩) hg
          have hg1 := (two_below hb).cell (p := ⟨g, off + k * 2 + 1, none⟩) hg
          rw [(unhide HCW).1] at hg0
          rw [(unhide HCW).2] at hg1
          clear hc0 hc1 hb hgw
          cases ok with
          | false =>
            have HZ2 := hide (show z = false by
              rw [unhide HZ1, all_range_false' _ _ k hlt (by rw [unhide HPOK]; rfl), Bool.false_and])
            clear HZ1
            go_wp2
            go_ret
            exact ⟨ret_bool (unhide HZ2).symm, two_below (unhide HB)⟩
          | true =>
            rw [Bool.true_and] at HPOK
            by_cases hxf : x1 = r.foot
            · have d : ((x1 : Int) == (r.foot : Int)) = true := by simp; omega
              have HZ2 := hide (show z = false by
                rw [unhide HZ1, all_range_false' _ _ k hlt (by rw [unhide HPOK]; simp [hxf]), Bool.false_and])
              clear HZ1 hxf
              go_wp2
              go_ret
              exact ⟨ret_bool (unhide HZ2).symm, two_below (unhide HB)⟩
            · have d : ((x1 : Int) == (r.foot : Int)) = false := by simp; omega
              have e1 : (x1 == r.foot) = false := by simpa using hxf
              rw [e1] at HPOK
              clear hxf e1
              go_wp2_with fail
              refine (unhide HTK _ (two_below (unhide HB))).mono ?_
              rintro e w4 ⟨rfl, hb4⟩
              have HB4 := hide ((unhide HB).trans (hb4.mono (B' := w.heap.size + 2) (by omega)))
              clear hb4
              cases hs with
              | true =>
                have HZ2 := hide (show z = false by
                  rw [unhide HZ1, all_range_false' _ _ k hlt (by rw [unhide HPOK]; rfl), Bool.false_and])
                clear HZ1
                go_wp2
                go_ret
                exact ⟨ret_bool (unhide HZ2).symm, two_below (unhide HB4)⟩
              | false =>
                have HNK := hide (show ∀ j, j < k + 1 → L.pOK r j = true by
                  intro j hj
                  rcases Nat.lt_or_ge j k with h | h
                  · exact unhide HNO j h
                  · obtain rfl : j = k := by omega
                    rw [unhide HPOK]; rfl)
                go_wp2
                go_roundg (gk - 1)
                case measure => have := unhide HK; omega
                case rel => exact ⟨k + 1, by go_num, by have := unhide HK; omega, unhide HNK, unhide HB4⟩
      · have HZ3 := hide (show z = (List.range r.flank.length).all (L.fOK r) by
          obtain rfl : k = r.path.length := by omega
          rw [unhide HZ1, all_range_true' _ _ (unhide HNO), Bool.true_and])
        clear HZ1 HNO HK hb p3
        go_wp2
        go_loopg [7] r.flank.length (fun n i wr => ∃ k : Nat, i = .int .i64 k ∧ n + k = r.flank.length ∧ (∀ j, j < k → L.fOK r j = true) ∧
            Below (w.heap.size + 2) ((w.alloc (layBox L vs vr vt)).alloc (.cells #[.int .i64 r.foot, .slice ap r.path.length cp, .slice af r.flank.length cf] 124)) wr)
        case atStart => exact ⟨0, rfl, by omega, fun j h => by omega, unhide HB⟩
        case round =>
        clear HB qs q0 q1 q2 q3 q4 q5 y0 y1 y2 hk' hlt
        obtain ⟨k, rfl, hk, hno, hb⟩ := hrel
        have HK := hide hk
        have HNO := hide hno
        have HB := hide hb
        have qs := two_size hb
        have hk' : k ≤ r.flank.length := by omega
        obtain ⟨⟨q0, q1, q2, q3, q4, q5⟩, -, -⟩ := six0 ((hb.block _ (by omega)).trans (unhide BB).1)
        obtain ⟨⟨y0, y1, y2⟩, -, -⟩ := tri0 ((hb.block _ (by omega)).trans (unhide BB).2)
        clear hk hno
        by_cases hlt : k < r.flank.length
        · obtain ⟨g, off, hao, hg, cs, -, hC, hc⟩ := f3 k hlt
          subst hao
          unfold CItem itemV at hC
          subst hC
          have hc0 := hc 0 (by omega)
          rw [← (two_below hb).cell (p := ⟨g, _, none⟩) hg] at hc0
          simp at hc0
          have HFOK := hide (show L.fOK r k = (!has r.path r.flank[k].1 && !has (r.flank.take k) r.flank[k].1 && (L.sw.getD r.flank[k].1 false && !L.endsB r.flank[k].1)) by rw [Lay.fOK, getDp _ _ hlt])
          have HN1 := hide (fun (wz : World) (hz : Below w.heap.size w wz) => names_any _ r.path r.flank[k].1 wz ((unhide HIP).keep (Keeps.below hz)))
          have HN2 := hide (fun (wz : World) (hz : Below w.heap.size w wz) => names_any _ (r.flank.take k) r.flank[k].1 wz ((Items.take (unhide HIF) k hk').keep (Keeps.below hz)))
          have HN3 := hide (fun (wz : World) (hz : Below w.heap.size w wz) => HasSwitch_any _ L r.flank[k].1 wz ((unhide HL).below hz))
          have HN4 := hide (fun (wz : World) (hz : Below w.heap.size w wz) => isLast_any _ L r.flank[k].1 wz ((unhide HL).below hz) (unhide HP))
          have l0 : (0 : Int) ≤ k := by omega
          have l1 : (k : Int) < r.flank.length := by omega
          clear hc f3 hb
          generalize r.flank[k].1 = x at *
          generalize has r.path x = c1 at *
          generalize has (r.flank.take k) x = c2 at *
          generalize L.sw.getD x false = c3 at *
          generalize L.endsB x = c4 at *
          go_wp2_with fail
          refine (unhide HN1 _ (two_below (unhide HB))).mono ?_
          rintro e w2 ⟨rfl, hb2⟩
          clear hc0
          have HBn := hide ((unhide HB).trans (hb2.mono (B' := w.heap.size + 2) (by omega)))
          clear HB qs q0 q1 q2 q3 q4 q5 y0 y1 y2 hb2
          have HB := HBn
          clear HBn
          have qs := two_size (unhide HB)
          obtain ⟨⟨q0, q1, q2, q3, q4, q5⟩, -, -⟩ := six0 (((unhide HB).block _ (by omega)).trans (unhide BB).1)
          obtain ⟨⟨y0, y1, y2⟩, -, -⟩ := tri0 (((unhide HB).block _ (by omega)).trans (unhide BB).2)
          cases c1 with
          | true =>
            have HZ2 := hide (show z = false by
              rw [unhide HZ3]; exact all_range_false' _ _ k hlt (by rw [unhide HFOK]; rfl))
            clear HZ3
            go_wp2
            go_ret
            exact ⟨ret_bool (unhide HZ2).symm, two_below (unhide HB)⟩
          | false =>
            go_wp2_with fail
            refine (unhide HN2 _ (two_below (unhide HB))).mono ?_
            rintro e w3 ⟨rfl, hb3⟩
            have HBn := hide ((unhide HB).trans (hb3.mono (B' := w.heap.size + 2) (by omega)))
            clear HB qs q0 q1 q2 q3 q4 q5 y0 y1 y2 hb3
            have HB := HBn
            clear HBn
            have qs := two_size (unhide HB)
            obtain ⟨⟨q0, q1, q2, q3, q4, q5⟩, -, -⟩ := six0 (((unhide HB).block _ (by omega)).trans (unhide BB).1)
            obtain ⟨⟨y0, y1, y2⟩, -, -⟩ := tri0 (((unhide HB).block _ (by omega)).trans (unhide BB).2)
            cases c2 with
            | true =>
              have HZ2 := hide (show z = false by
                rw [unhide HZ3]; exact all_range_false' _ _ k hlt (by rw [unhide HFOK]; rfl))
              clear HZ3
              go_wp2
              go_ret
              exact ⟨ret_bool (unhide HZ2).symm, two_below (unhide HB)⟩
            | false =>
              go_wp2_with fail
              refine (unhide HN3 _ (two_below (unhide HB))).mono ?_
              rintro e w4 ⟨rfl, hb4⟩
              have HBn := hide ((unhide HB).trans (hb4.mono (B' := w.heap.size + 2) (by omega)))
              clear HB qs q0 q1 q2 q3 q4 q5 y0 y1 y2 hb4
              have HB := HBn
              clear HBn
              have qs := two_size (unhide HB)
              obtain ⟨⟨q0, q1, q2, q3, q4, q5⟩, -, -⟩ := six0 (((unhide HB).block _ (by omega)).trans (unhide BB).1)
              obtain ⟨⟨y0, y1, y2⟩, -, -⟩ := tri0 (((unhide HB).block _ (by omega)).trans (unhide BB).2)
              cases c3 with
              | false =>
                have HZ2 := hide (show z = false by
                  rw [unhide HZ3]; exact all_range_false' _ _ k hlt (by rw [unhide HFOK]; rfl))
                clear HZ3
                go_wp2
                go_ret
                exact ⟨ret_bool (unhide HZ2).symm, two_below (unhide HB)⟩
              | true =>
                go_wp2_with fail
                refine (unhide HN4 _ (two_below (unhide HB))).mono ?_
                rintro e w5 ⟨rfl, hb5⟩
                have HBn := hide ((unhide HB).trans (hb5.mono (B' := w.heap.size + 2) (by omega)))
                clear HB qs q0 q1 q2 q3 q4 q5 y0 y1 y2 hb5
                have HB := HBn
                clear HBn
                have qs := two_size (unhide HB)
                obtain ⟨⟨q0, q1, q2, q3, q4, q5⟩, -, -⟩ := six0 (((unhide HB).block _ (by omega)).trans (unhide BB).1)
                obtain ⟨⟨y0, y1, y2⟩, -, -⟩ := tri0 (((unhide HB).block _ (by omega)).trans (unhide BB).2)
                cases c4 with
                | true =>
                  have HZ2 := hide (show z = false by
                    rw [unhide HZ3]; exact all_range_false' _ _ k hlt (by rw [unhide HFOK]; rfl))
                  clear HZ3
                  go_wp2
                  go_ret
                  exact ⟨ret_bool (unhide HZ2).symm, two_below (unhide HB)⟩
                | false =>
                  have HNK := hide (show ∀ j, j < k + 1 → L.fOK r j = true by
                    intro j hj
                    rcases Nat.lt_or_ge j k with h | h
                    · exact unhide HNO j h
                    · obtain rfl : j = k := by omega
                      rw [unhide HFOK]; rfl)
                  go_wp2
                  go_roundg (gk - 1)
                  case measure => have := unhide HK; omega
                  case rel => exact ⟨k + 1, by go_num, by have := unhide HK; omega, unhide HNK, unhide HB⟩
        · have HZ2 := hide (show z = true by
            obtain rfl : k = r.flank.length := by omega
            rw [unhide HZ3]; exact all_range_true' _ _ (unhide HNO))
          clear HZ3 HNO HK hb f3
          go_wp2
          go_ret
          exact ⟨ret_bool (unhide HZ2).symm, two_below (unhide HB)⟩
end Go.Proofs.YtkbpocecbcaiiaaGreatDoor
