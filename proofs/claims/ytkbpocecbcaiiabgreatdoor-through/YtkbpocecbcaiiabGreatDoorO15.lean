import Derived.Test.YtkbpocecbcaiiabGreatDoorO14
namespace Go.Proofs.YtkbpocecbcaiiabGreatDoor
open Go.RowKit
def VRt (w : World) (v : Value) (r : Rt) : Prop := ∃ vp vf, v = .agg #[.int .i64 r.foot, vp, vf] /\ Items w vp r.path /\ Items w vf r.flank
theorem VRt.below {w w' : World} {v : Value} {r : Rt} (h : VRt w v r) (k : Below w.heap.size w w') : VRt w' v r := by
 obtain ⟨vp, vf, e, a, b⟩ := h
 exact ⟨vp, vf, e, a.keep (.below k), b.keep (.below k)⟩
set_option maxHeartbeats 400000 in
theorem Last_any (v : Value) (r : Rt) (w : World) (h : VRt w v r) (hne : r.path ≠ []) :
  Calls Tryz.prog 180 #[v] w fun e w' => e = .returned (.int .i64 (lastN r.path : Nat)) /\ Below w.heap.size w w' := by
 obtain ⟨vp, vf, rfl, hP, -⟩ := h
 obtain ⟨ao, cap, rfl, h1, h2, h3⟩ := SlAt.open hP
 unfold maxLen at h2
 have hpos : 0 < r.path.length := List.length_pos_iff.2 hne
 have hlt : r.path.length - 1 < r.path.length := by omega
 obtain ⟨g, off, rfl, hg, cs, -, hC, hc⟩ := h3 _ hlt
 unfold CItem itemV at hC
 subst hC
 have hc0 := hc 0 (by omega)
 simp at hc0
 have hlast : lastN r.path = r.path[r.path.length - 1].1 := by
  unfold lastN
  rw [List.getLastD_eq_getLast?, List.getLast?_eq_getElem?, List.getElem?_eq_getElem hlt]; rfl
 rw [<- hlast] at hc0
 clear hc h3 hP hlast hne
 have hz : ((r.path.length : Int) == 0) = false := beq_eq_false_iff_ne.2 (by omega)
 generalize r.path = p at *
 go_enter Tryz.func180, Tryz.ntmps180
 go_wp2
 go_ret
 exact ⟨rfl, z01 _ _⟩
theorem two_lay {w wr : World} {L : Lay} {vh vr vt : Value} {o2 : Obj} (hb : Below (w.heap.size + 2) ((w.alloc (z0n L vh vr vt)).alloc o2) wr) :
  wr.cell? ⟨w.heap.size, 0, none⟩ = some (.int .i64 L.T) /\ wr.cell? ⟨w.heap.size, 1, none⟩ = some (.int .i64 L.D) /\ wr.cell? ⟨w.heap.size, 2, none⟩ = some (.int .i64 L.Q) ∧
  wr.cell? ⟨w.heap.size, 3, none⟩ = some vh /\ wr.cell? ⟨w.heap.size, 4, none⟩ = some vr /\ wr.cell? ⟨w.heap.size, 5, none⟩ = some vt := by
 have h := blk1 w (z0n L vh vr vt) o2
 exact ⟨z1d hb (by omega) h 0, z1d hb (by omega) h 1, z1d hb (by omega) h 2, z1d hb (by omega) h 3, z1d hb (by omega) h 4, z1d hb (by omega) h 5⟩
theorem two_tri {w wr : World} {o1 : Obj} {c0 c1 c2 : Value} {t : TypeId} (hb : Below (w.heap.size + 2) ((w.alloc o1).alloc (.cells #[c0, c1, c2] t)) wr) :
  (wr.cell? ⟨w.heap.size + 1, 0, none⟩ = some c0 /\ wr.cell? ⟨w.heap.size + 1, 1, none⟩ = some c1 /\ wr.cell? ⟨w.heap.size + 1, 2, none⟩ = some c2) ∧
  (wr.frozen? ⟨w.heap.size + 1, 0, none⟩ = false /\ wr.frozen? ⟨w.heap.size + 1, 1, none⟩ = false /\ wr.frozen? ⟨w.heap.size + 1, 2, none⟩ = false) := by
 have h := blk2 w o1 (.cells #[c0, c1, c2] t)
 exact ⟨⟨z1d hb (by omega) h 0, z1d hb (by omega) h 1, z1d hb (by omega) h 2⟩, ⟨blk_free hb (by omega) h 0, blk_free hb (by omega) h 1, blk_free hb (by omega) h 2⟩⟩
set_option maxHeartbeats 400000 in
theorem RouteAt_any (v : Value) (L : Lay) (x : Nat) (w : World) (h : CLay w v L) :
  Calls Tryz.prog 181 #[v, .int .i64 x] w fun e w' => ∃ (t : Int) (a1 a2 : Option Addr) (n1 n2 c1 c2 : Nat), e = .returned (.tuple #[.agg #[.int .i64 t, .slice a1 n1 c1, .slice a2 n2 c2], .bool (decide (x < L.rts.length))]) ∧
   (x < L.rts.length -> VRt w' (.agg #[.int .i64 t, .slice a1 n1 c1, .slice a2 n2 c2]) (L.rt x)) /\ Below w.heap.size w w' := by
 have HL := zh h
 obtain ⟨vs, vr, vt, rfl, -, hR, -⟩ := h
 obtain ⟨ao, cap, rfl, -, hm, h3⟩ := SlAt.open hR
 have H1 := zh (fun (wz : World) (hz : Below w.heap.size w wz) => HasRoute_any _ L x wz ((uh HL).below hz))
 unfold maxLen at hm
 clear hR
 by_cases hx : x < L.rts.length
 ·obtain ⟨g, off, rfl, hg, cs, -, hC, hc⟩ := h3 x hx
  obtain ⟨vp, vf, rfl, hP, hF⟩ := hC
  have hc0 := hc 0 (by omega)
  have hc1 := hc 1 (by omega)
  have hc2 := hc 2 (by omega)
  simp at hc0 hc1 hc2
  have HV := zh (show VRt w (.agg #[.int .i64 L.rts[x].foot, vp, vf]) L.rts[x] from ⟨_, _, rfl, hP, hF⟩)
  obtain ⟨a1, d1, rfl, -, -, -⟩ := SlAt.open hP
  obtain ⟨a2, d2, rfl, -, -, -⟩ := SlAt.open hF
  rw [show decide (x < L.rts.length) = true from decide_eq_true hx] at H1 ⊢
  rw [rt_eq L x hx]
  have l0 : (0 : Int) <= x := by omega
  have l2 : (x : Int) < L.rts.length := by omega
  clear hc h3 hP hF HL
  generalize L.rts[x] = R at *
  go_enter Tryz.func181, Tryz.ntmps181
  go_wp2_with fail
  refine (uh H1 _ (z08 (Below.refl _ _))).mono ?_
  rintro e w1 ⟨rfl, hb⟩
  have hb2 : Below (w.heap.size + 2) ((w.alloc (z0n L vs (.slice (some ⟨g, off, none⟩) L.rts.length cap) vt)).alloc (.cells #[.int .i64 0, .slice none 0 0, .slice none 0 0] 113)) w1 := hb.mono (by simp)
  obtain ⟨q0, q1, q2, q3, q4, q5⟩ := two_lay hb2
  obtain ⟨⟨z0, z1, z2⟩, ⟨y0, y1, y2⟩⟩ := two_tri hb2
  have hbw := z08 hb2
  rw [<- hbw.cell (p := ⟨g, _, none⟩) hg] at hc0 hc1 hc2
  have hsz := z1r hb2
  have HB := zh hbw
  clear hb hb2 hbw H1
  go_wp2
  refine bodyPost_ret (v := .tuple #[.agg #[.int .i64 R.foot, .slice a1 R.path.length d1, .slice a2 R.flank.length d2], .bool true]) (by simp [results, Tryz.results181, go_sem, z0, z1, z2]) rfl ?_
  have hbf := (((uh HB).setCell (p := ⟨w.heap.size + 1, 0, none⟩) (by simp) (.int .i64 R.foot)).setCell (p := ⟨w.heap.size + 1, 1, none⟩) (by simp) (.slice a1 R.path.length d1)).setCell (p := ⟨w.heap.size + 1, 2, none⟩) (by simp) (.slice a2 R.flank.length d2)
  first
   | exact ⟨_, _, _, _, _, _, _, rfl, (uh HV).below hbf, hbf⟩
   | exact ⟨_, _, _, _, _, _, _, rfl, fun _ => (uh HV).below hbf, hbf⟩
 ·rw [show decide (x < L.rts.length) = false from decide_eq_false hx] at H1 ⊢
  have HX := zh hx
  clear h3 HL hx
  go_enter Tryz.func181, Tryz.ntmps181
  go_wp2_with fail
  refine (uh H1 _ (z08 (Below.refl _ _))).mono ?_
  rintro e w1 ⟨rfl, hb⟩
  have hb2 : Below (w.heap.size + 2) ((w.alloc (z0n L vs (.slice ao L.rts.length cap) vt)).alloc (.cells #[.int .i64 0, .slice none 0 0, .slice none 0 0] 113)) w1 := hb.mono (by simp)
  obtain ⟨⟨z0, z1, z2⟩, ⟨y0, y1, y2⟩⟩ := two_tri hb2
  have hsz := z1r hb2
  have HB := zh (z08 hb2)
  clear hb hb2 H1
  go_wp2
  refine bodyPost_ret (v := .tuple #[.agg #[.int .i64 0, .slice none 0 0, .slice none 0 0], .bool false]) (by simp [results, Tryz.results181, go_sem, z0, z1, z2]) rfl ?_
  have hbf := (((uh HB).setCell (p := ⟨w.heap.size + 1, 0, none⟩) (by simp) (.int .i64 0)).setCell (p := ⟨w.heap.size + 1, 1, none⟩) (by simp) (.slice none 0 0)).setCell (p := ⟨w.heap.size + 1, 2, none⟩) (by simp) (.slice none 0 0)
  exact ⟨_, _, _, _, _, _, _, rfl, fun h => absurd h (uh HX), hbf⟩
set_option maxHeartbeats 1000000 in
theorem isLast_any (v : Value) (L : Lay) (x : Nat) (w : World) (h : CLay w v L) (hp : L.Paths) :
  Calls Tryz.prog 161 #[v, .int .i64 x] w fun e w' => e = .returned (.bool (L.endsB x)) /\ Below w.heap.size w w' := by
 obtain ⟨vs, vr, vt, rfl, -, hR, -⟩ := h
 obtain ⟨ao, cap, rfl, h1, h2, h3⟩ := SlAt.open hR
 unfold maxLen at h2
 generalize hz : L.endsB x = z
 have HZ := zh hz
 have HP := zh hp
 clear hz hp hR
 go_enter Tryz.func161, Tryz.ntmps161
 go_wp2
 go_loopw [10] (fun i wr => ∃ k : Nat, i = .int .i64 k /\ k <= L.rts.length /\ (L.rts.take k).any (fun r => lastN r.path == x) = false /\ Below w.heap.size w wr) (fun i _ => L.rts.length - (intOf i).toNat)
 case atStart => exact ⟨0, rfl, Nat.zero_le _, rfl, z01 _ _⟩
 case round =>
  obtain ⟨k, rfl, hk, hno, hb⟩ := hrel
  have HNO := zh hno
  have HB := zh hb
  have hsz := hb.size
  clear hno
  by_cases hlt : k < L.rts.length
  ·obtain ⟨g, off, hao, hg, cs, -, hC, hc⟩ := h3 k hlt
   subst hao
   obtain ⟨vp, vf, rfl, hP, hF⟩ := hC
   have hc0 := hc 0 (by omega)
   have hc1 := hc 1 (by omega)
   have hc2 := hc 2 (by omega)
   rw [<- hb.cell (p := ⟨g, _, none⟩) hg] at hc0 hc1 hc2
   simp at hc0 hc1 hc2
   have hgw : g < wr.heap.size := by omega
   have HV := zh (show VRt w (.agg #[.int .i64 L.rts[k].foot, vp, vf]) L.rts[k] from ⟨_, _, rfl, hP, hF⟩)
   have HA := zh (z3u (fun r => lastN r.path == x) L.rts k hlt)
   have hmem := zh (List.getElem_mem hlt)
   have HN := zh (uh HP L.rts[k] (List.getElem_mem hlt))
   obtain ⟨a1, d1, rfl, -, -, -⟩ := SlAt.open hP
   obtain ⟨a2, d2, rfl, -, -, -⟩ := SlAt.open hF
   clear hc h3 hP hF hb
   generalize hRR : L.rts[k] = R at *
   clear hRR
   go_wp2_with fail
   refine (Last_any _ R _ ((uh HV).below ((uh HB).alloc hsz _)) (uh HN)).mono ?_
   rintro e w2 ⟨rfl, hb2⟩
   have hb3 := zh (((uh HB).alloc hsz (.cells #[.int .i64 R.foot, .slice a1 R.path.length d1, .slice a2 R.flank.length d2] 113)).trans (hb2.mono (by simp; omega)))
   clear hb2 hc0 hc1 hc2
   by_cases hx : lastN R.path = x
   ·have HZ2 := zh (show z = true by
     rw [<- uh HZ, Lay.endsB, List.any_eq_true]
     exact ⟨R, uh hmem, by simpa using hx⟩)
    have d : ((lastN R.path : Int) == (x : Int)) = true := by simp; omega
    clear hx
    go_wp2
    go_ret
    exact ⟨z04 (uh HZ2).symm, uh hb3⟩
   ·have d : ((lastN R.path : Int) == (x : Int)) = false := by simp; omega
    have HX := zh (show (lastN R.path == x) = false by simpa using hx)
    clear hx
    go_wp2
    exact ⟨⟨k + 1, by go_num, by omega, by rw [uh HA, uh HNO, uh HX]; rfl, uh hb3⟩, by simp [intOf]; omega⟩
  ·have HZ2 := zh (show z = false by rw [<- uh HZ, Lay.endsB, <- uh HNO, List.take_of_length_le (by omega)])
   clear h3
   go_wp2
   go_ret
   exact ⟨z04 (uh HZ2).symm, hb⟩
set_option maxHeartbeats 1000000 in
theorem inFlank_any (v : Value) (L : Lay) (x : Nat) (w : World) (h : CLay w v L) :
  Calls Tryz.prog 162 #[v, .int .i64 x] w fun e w' => e = .returned (.bool (L.flankedB x)) /\ Below w.heap.size w w' := by
 obtain ⟨vs, vr, vt, rfl, -, hR, -⟩ := h
 obtain ⟨ao, cap, rfl, h1, h2, h3⟩ := SlAt.open hR
 unfold maxLen at h2
 generalize hz : L.flankedB x = z
 have HZ := zh hz
 clear hz hR
 go_enter Tryz.func162, Tryz.ntmps162
 go_wp2
 go_loopw [10] (fun i wr => ∃ k : Nat, i = .int .i64 k /\ k <= L.rts.length /\ (L.rts.take k).any (fun r => has r.flank x) = false /\ Below w.heap.size w wr) (fun i _ => L.rts.length - (intOf i).toNat)
 case atStart => exact ⟨0, rfl, Nat.zero_le _, rfl, z01 _ _⟩
 case round =>
  obtain ⟨k, rfl, hk, hno, hb⟩ := hrel
  have HNO := zh hno
  have HB := zh hb
  have hsz := hb.size
  clear hno
  by_cases hlt : k < L.rts.length
  ·obtain ⟨g, off, hao, hg, cs, -, hC, hc⟩ := h3 k hlt
   subst hao
   obtain ⟨vp, vf, rfl, hP, hF⟩ := hC
   have hc0 := hc 0 (by omega)
   have hc1 := hc 1 (by omega)
   have hc2 := hc 2 (by omega)
   rw [<- hb.cell (p := ⟨g, _, none⟩) hg] at hc0 hc1 hc2
   simp at hc0 hc1 hc2
   have hgw : g < wr.heap.size := by omega
   have HFl := zh (show Items w vf L.rts[k].flank from hF)
   have HA := zh (z3u (fun r => has r.flank x) L.rts k hlt)
   have hmem := zh (List.getElem_mem hlt)
   obtain ⟨a1, d1, rfl, -, -, -⟩ := SlAt.open hP
   obtain ⟨a2, d2, rfl, -, -, -⟩ := SlAt.open hF
   clear hc h3 hP hF hb
   generalize hRR : L.rts[k] = R at *
   clear hRR
   go_wp2_with fail
   refine (z4o _ R.flank x _ ((uh HFl).keep (Keeps.below ((uh HB).alloc hsz _)))).mono ?_
   rintro e w2 ⟨rfl, hb2⟩
   have hb3 := zh (((uh HB).alloc hsz (.cells #[.int .i64 R.foot, .slice a1 R.path.length d1, .slice a2 R.flank.length d2] 113)).trans (hb2.mono (by simp; omega)))
   clear hb2 hc0 hc1 hc2
   cases hx : has R.flank x with
   | true =>
    have HZ2 := zh (show z = true by
     rw [<- uh HZ, Lay.flankedB, List.any_eq_true]
     exact ⟨R, uh hmem, hx⟩)
    clear hx
    go_wp2
    go_ret
    exact ⟨z04 (uh HZ2).symm, uh hb3⟩
   | false =>
    have HX := zh hx
    clear hx
    go_wp2
    exact ⟨⟨k + 1, by go_num, by omega, by rw [uh HA, uh HNO, uh HX]; rfl, uh hb3⟩, by simp [intOf]; omega⟩
  ·have HZ2 := zh (show z = false by rw [<- uh HZ, Lay.flankedB, <- uh HNO, List.take_of_length_le (by omega)])
   clear h3
   go_wp2
   go_ret
   exact ⟨z04 (uh HZ2).symm, hb⟩
structure PRt where
 rt : Rt
 ph : Nat
 train : Nat
 been : Bool
 count : Nat
 marked : List Bool
 freed : Nat
structure PSw where
 wanted : Nat
 late : Nat
 failed : Bool
structure PBx where
 L : Lay
 rts : List PRt
 sws : List PSw
 sta : List Nat
 waits : List Nat
def PRt.new (r : Rt) : PRt := ⟨r, 46, 0, false, 0, [], 0⟩
def PSw.new : PSw := ⟨43, 0, false⟩
def swV (x : PSw) : List Value := [.int .u8 x.wanted, .int .i64 x.late, .bool x.failed]
def CPSw (_ : World) (x : PSw) (cs : List Value) : Prop := cs = swV x
def PSws (w : World) (v : Value) (l : List PSw) : Prop := SlAt 110 3 CPSw w v l
theorem PSws.keep {w w' : World} {v : Value} {l : List PSw} (h : PSws w v l) (k : Keeps 110 w w') : PSws w' v l := SlAt.keep h k (fun _ _ h => h)
def CPRt (w : World) (x : PRt) (cs : List Value) : Prop := ∃ vp vf vm, cs = [.int .i64 x.rt.foot, vp, vf, .int .u8 x.ph, .int .i64 x.train, .bool x.been, .int .i64 x.count, vm, .int .i64 x.freed] /\ Items w vp x.rt.path /\ Items w vf x.rt.flank /\ Bools w vm x.marked
theorem CPRt.keep {w w' : World} {x : PRt} {cs : List Value} (h : CPRt w x cs) (k : Keeps 168 w w') (k1 : Keeps 4 w w') : CPRt w' x cs := by
 obtain ⟨vp, vf, vm, e, a, b, c⟩ := h
 exact ⟨vp, vf, vm, e, a.keep k, b.keep k, c.keep k1⟩
def PRts (w : World) (v : Value) (l : List PRt) : Prop := SlAt 115 9 CPRt w v l
theorem PRts.keep {w w' : World} {v : Value} {l : List PRt} (h : PRts w v l) (k : Keeps 115 w w') (k1 : Keeps 168 w w') (k2 : Keeps 4 w w') : PRts w' v l := SlAt.keep h k (fun _ _ h => h.keep k1 k2)
def PBoxAt (w : World) (g : Nat) (B : PBx) : Prop := ∃ vs vr vt vl vw va vq,
 w.heap[g]? = some (.cells #[.int .i64 B.L.T, .int .i64 B.L.D, .int .i64 B.L.Q, vs, vr, vt, vl, vw, va, vq] 86 (0, 0)) ∧
 CLay w (.agg #[.int .i64 B.L.T, .int .i64 B.L.D, .int .i64 B.L.Q, vs, vr, vt]) B.L /\ PRts w vl B.rts /\ PSws w vw B.sws /\ Ints w va B.sta /\ Ints w vq B.waits
theorem PBoxAt.below {w w' : World} {g : Nat} {B : PBx} (h : PBoxAt w g B) (k : Below w.heap.size w w') : PBoxAt w' g B := by
 obtain ⟨vs, vr, vt, vl, vw, va, vq, e, h1, h2, h3, h4, h5⟩ := h
 have kk := fun e => Keeps.below (e := e) k
 exact ⟨vs, vr, vt, vl, vw, va, vq, (k.block g (z0g e)).trans e, h1.below k, h2.keep (kk _) (kk _) (kk _), h3.keep (kk _), h4.keep (kk _), h5.keep (kk _)⟩
theorem box10 {w : World} {g : Nat} {c0 c1 c2 c3 c4 c5 c6 c7 c8 c9 : Value} {e : TypeId} (h : w.heap[g]? = some (.cells #[c0, c1, c2, c3, c4, c5, c6, c7, c8, c9] e (0, 0))) :
  (w.cell? ⟨g, 0, none⟩ = some c0 /\ w.cell? ⟨g, 1, none⟩ = some c1 /\ w.cell? ⟨g, 2, none⟩ = some c2 /\ w.cell? ⟨g, 3, none⟩ = some c3 /\ w.cell? ⟨g, 4, none⟩ = some c4 /\ w.cell? ⟨g, 5, none⟩ = some c5 ∧
   w.cell? ⟨g, 6, none⟩ = some c6 /\ w.cell? ⟨g, 7, none⟩ = some c7 /\ w.cell? ⟨g, 8, none⟩ = some c8 /\ w.cell? ⟨g, 9, none⟩ = some c9) ∧
  (w.frozen? ⟨g, 6, none⟩ = false /\ w.frozen? ⟨g, 7, none⟩ = false /\ w.frozen? ⟨g, 8, none⟩ = false /\ w.frozen? ⟨g, 9, none⟩ = false) /\ g < w.heap.size :=
 ⟨⟨z07 h 0, z07 h 1, z07 h 2, z07 h 3, z07 h 4, z07 h 5, z07 h 6, z07 h 7, z07 h 8, z07 h 9⟩,
  ⟨z0c h 6, z0c h 7, z0c h 8, z0c h 9⟩, z0g h⟩
theorem byts_str {w : World} {v : Value} {l : List Nat} (h : Byts w v l) : (convert 74 9 v).run Tryz.prog w = .ok (.string (z0i l)) w := by
 obtain ⟨ao, cap, rfl, -, -, h3⟩ := h
 have e : z0i l = strOfNums (l.map Int.ofNat) := by simp [z0i, strOfNums]
 rcases h3 with h3 | ⟨g, off, cur, fr, rfl, hg, hc⟩
 ·subst h3
  have := @run_convert_bytes_nil Tryz.prog
  first
   | (cases ao with
    | none => exact this w _ _ Tryz.underlying74 Tryz.underlying5 _ _ _ Tryz.underlying9
    | some a => 
     have := run_convert_bytes_string (P := Tryz.prog) w 74 9 5 (some a) 0 cap Tryz.underlying74 Tryz.underlying5 Tryz.underlying9
     rw [show ([] : List Nat).length = 0 from rfl, this, run_bytesToString w a 0 cap [] (by simpa using run_loadCells_list (P := Tryz.prog) w a [] (by simp))]
     rfl)
 ·rw [e]
  refine run_convert_bytes_arg (P := Tryz.prog) w _ _ Tryz.underlying74 Tryz.underlying5 g off l.length cap _ (by simp) (fun i hi => ?_) _ Tryz.underlying9
  obtain ⟨cs, -, hC, hcs⟩ := hc i hi
  have := hcs 0 (by omega)
  unfold CByte at hC
  subst hC
  rw [z1j hg]
  simp at this
  rw [this]
  simp [hi]
def PRt.lockB (x : PRt) (s : Nat) : Bool := x.ph != 46 && ((secs x.rt.path).drop x.freed).contains s
def PBx.lockB (B : PBx) (s r : Nat) : Bool := (B.rts.getD r (PRt.new Rt0)).lockB s
def PBx.lockedBy (B : PBx) (s : Nat) : Option Nat := (List.range B.rts.length).find? (B.lockB s)
def PBx.locksT (B : PBx) : List Nat := (List.range B.L.sw.length).map (fun s => lockC (B.lockedBy s))
def PBx.phasesT (B : PBx) : List Nat := B.rts.map (·.ph)
def PSw.tell (x : PSw) : Nat := if x.failed then 120 else x.wanted
def PBx.swT (B : PBx) (s : Nat) : List Nat := if B.L.sw.getD s false then [(B.sws.getD s PSw.new).tell] else []
def PBx.switchesT (B : PBx) : List Nat := (List.range B.sws.length).flatMap B.swT
def PBx.stateT (B : PBx) : List Nat := B.sta.map (48 + ·)
set_option maxHeartbeats 400000 in
theorem isSet_at (g o ph : Nat) (w : World) (h : w.cell? ⟨g, o + 3, none⟩ = some (.int .u8 ph)) :
  Calls Tryz.prog 102 #[.pointer (some ⟨g, o, none⟩)] w fun e w' => e = .returned (.bool (ph != 46)) /\ w' = w := by
 have hx : ((ph : Int) != 46) = (ph != 46) := by
  rw [Bool.eq_iff_iff]; simp; omega
 go_enter Tryz.func102, Tryz.ntmps102
 go_wp2
 go_ret
 exact ⟨rfl, rfl⟩
set_option maxHeartbeats 1000000 in
theorem locks_at (g o : Nat) (x : PRt) (cs : List Value) (s : Nat) (w : World) (hg : g < w.heap.size) (hc : ∀ j, j < 9 -> w.cell? ⟨g, o + j, none⟩ = cs[j]?) (hC : CPRt w x cs) (_hf : x.freed <= 1000) :
  Calls Tryz.prog 121 #[.pointer (some ⟨g, o, none⟩), .int .i64 s] w fun e w' => e = .returned (.bool (x.lockB s)) /\ Below w.heap.size w w' := by
 obtain ⟨vp, vf, vm, rfl, hP, -, -⟩ := hC
 have c1 := hc 1 (by omega)
 have c3 := hc 3 (by omega)
 have c6 := hc 8 (by omega)
 simp at c1 c3 c6
 have HS := zh (isSet_at g o x.ph w c3)
 unfold PRt.lockB
 obtain ⟨ap, cp, rfl, hpl, hmp, p3⟩ := SlAt.open hP
 unfold maxLen at hmp
 obtain ⟨Z, hZ⟩ : ∃ Z, Z = (x.ph != 46 && ((secs x.rt.path).drop x.freed).contains s) := ⟨_, rfl⟩
 rw [<- hZ]
 have HZ := zh hZ
 have hcd := zh (contains_drop (secs x.rt.path) x.freed s)
 have HSL := zh (show (secs x.rt.path).length = x.rt.path.length by simp [secs])
 have HSG := zh (show ∀ k (h : k < x.rt.path.length) (h' : k < (secs x.rt.path).length), (secs x.rt.path)[k] = x.rt.path[k].1 by intro k h h'; simp [secs])
 generalize x.rt.path = P at *
 generalize x.freed = fr at *
 clear hc hP hZ
 by_cases hph : x.ph = 46
 ·have b0 : (x.ph != 46) = false := by simp [hph]
  have HZ0 := zh (show Z = false by rw [uh HZ, b0]; rfl)
  rw [b0] at HS
  generalize x.ph = ph at *
  clear p3 HZ
  go_enter Tryz.func121, Tryz.ntmps121
  go_wp2_with fail
  refine (uh HS).mono ?_
  rintro e w1 ⟨rfl, rfl⟩
  go_wp2
  go_ret
  exact ⟨z04 (uh HZ0).symm, Below.refl _ _⟩
 ·have b0 : (x.ph != 46) = true := by simp [hph]
  have HZ0 := zh (show Z = ((secs P).drop fr).contains s by rw [uh HZ, b0]; rfl)
  rw [b0] at HS
  generalize x.ph = ph at *
  clear HZ
  go_enter Tryz.func121, Tryz.ntmps121
  go_wp2_with fail
  refine (uh HS).mono ?_
  rintro e w1 ⟨rfl, rfl⟩
  go_wp2
  go_loopw [16] (fun i wr => ∃ k : Nat, i = .int .i64 k /\ k <= P.length /\ (∀ j (h : j < P.length), fr <= j -> j < k -> P[j].1 ≠ s) /\ Below w1.heap.size w1 wr) (fun i _ => P.length - (intOf i).toNat)
  case atStart => exact ⟨0, rfl, Nat.zero_le _, fun j h h1 h2 => by omega, Below.refl _ _⟩
  case round =>
   obtain ⟨k, rfl, hk, hno, hb⟩ := hrel
   have HNO := zh hno
   have HB := zh hb
   have hbs := hb.size
   clear hno
   by_cases hlt : k < P.length
   ·obtain ⟨gp, op, hap, hgp, csp, -, hCp, hcp⟩ := p3 k hlt
    subst hap
    unfold CItem itemV at hCp
    subst hCp
    have x0 := hcp 0 (by omega)
    have x1 := hcp 1 (by omega)
    rw [<- hb.cell (p := ⟨gp, _, none⟩) hgp] at x0 x1
    rw [<- hb.cell (p := ⟨g, _, none⟩) hg] at c6
    simp at x0 x1
    have l1 : (k : Int) < P.length := by omega
    have hgw : g < wr.heap.size := by omega
    have hgpw : gp < wr.heap.size := by omega
    have HNN := zh (show (fr <= k -> P[k].1 ≠ s) -> ∀ j (h : j < P.length), fr <= j -> j < k + 1 -> P[j].1 ≠ s by
     intro hx j h h1 h2
     by_cases hj : j < k
     ·exact uh HNO j h h1 hj
     ·obtain rfl : j = k := by omega
      exact hx h1)
    have HFD := zh (show fr <= k -> P[k].1 = s -> Z = true by
     intro h0 h1
     rw [uh HZ0, (uh hcd).2 ⟨k, by rw [uh HSL]; exact hlt, h0, by rw [uh HSG k hlt]; exact h1⟩])
    clear hcp p3 hb
    generalize P[k].1 = y at *
    generalize P[k].2 = y2 at *
    by_cases hfr : fr <= k
    ·have b1 : decide ((fr : Int) <= k) = true := by simp; omega
     by_cases hys : y = s
     ·have b2 : ((y : Int) == s) = true := by simp [hys]
      have HZ2 := zh (uh HFD hfr hys)
      go_wp2
      go_ret
      exact ⟨z04 (uh HZ2).symm, (uh HB).alloc hbs _⟩
     ·have b2 : ((y : Int) == s) = false := by simp; omega
      go_wp2
      exact ⟨⟨k + 1, by go_num, by omega, uh HNN (fun _ => hys), (uh HB).alloc hbs _⟩, by simp [intOf]; omega⟩
    ·have b1 : decide ((fr : Int) <= k) = false := by simp; omega
     go_wp2
     exact ⟨⟨k + 1, by go_num, by omega, uh HNN (fun h => absurd h hfr), (uh HB).alloc hbs _⟩, by simp [intOf]; omega⟩
   ·have HZ2 := zh (show Z = false by
     rw [uh HZ0, Bool.eq_false_iff]
     intro h
     obtain ⟨j, hj, h1, h2⟩ := (uh hcd).1 h
     have hj' : j < P.length := by rw [<- uh HSL]; exact hj
     rw [uh HSG j hj'] at h2
     exact uh HNO j hj' h1 (by omega) h2)
    have l1 : (P.length : Int) <= k := by omega
    clear p3 hb
    go_wp2
    go_ret
    exact ⟨z04 (uh HZ2).symm, uh HB⟩
theorem set_self {α : Type} (l : List α) (r : Nat) (h : r < l.length) : l.set r l[r] = l := by simp
end Go.Proofs.YtkbpocecbcaiiabGreatDoor
