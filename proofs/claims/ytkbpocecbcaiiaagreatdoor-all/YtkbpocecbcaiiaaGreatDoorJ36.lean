import Derived.Test.YtkbpocecbcaiiaaGreatDoorJ35
namespace Go.Proofs.YtkbpocecbcaiiaaGreatDoor
open Go.RowKit
def Lay.trainOK (L : Lay) (t : Tn) (ahead : List Tn) : Bool := decide (t.start < L.sw.length) && !L.flankedB t.start && !ahead.any (fun o => o.start == t.start) && L.joins t.start t.jny
set_option maxHeartbeats 1000000 in
theorem trainRight_any (v v1 v2 : Value) (L : Lay) (t : Tn) (ahead : List Tn) (w : World) (h : CLay w v L) (ht : VTn w v1 t) (ha : Tns w v2 ahead) (hp : L.Paths) :
  Calls Tryz.prog 159 #[v, v1, v2] w fun e w' => e = .returned (.bool (L.trainOK t ahead)) /\ Below w.heap.size w w' := by
 have HL := zh h
 have HV := zh ht
 obtain ⟨vs, vr, vt, rfl, -, -, -⟩ := h
 obtain ⟨vj, rfl, hJ⟩ := ht
 obtain ⟨aj, cj, rfl, -, -, -⟩ := SlAt.open hJ
 obtain ⟨ao, ca, rfl, h1, h2, h3⟩ := SlAt.open ha
 unfold maxLen at h2
 have HP := zh hp
 clear hJ ha hp
 have H1 := zh (fun (wz : World) (hz : Below w.heap.size w wz) => z1v _ L t.start wz ((uh HL).below hz))
 have H2 := zh (fun (wz : World) (hz : Below w.heap.size w wz) => inFlank_any _ L t.start wz ((uh HL).below hz))
 have H3 := zh (fun (wz : World) (hz : Below w.heap.size w wz) => journeyRight_any _ _ L t wz ((uh HL).below hz) ((uh HV).below hz) (uh HP))
 obtain ⟨z, hz⟩ : ∃ z, z = L.trainOK t ahead := ⟨_, rfl⟩
 rw [<- hz]
 unfold Lay.trainOK at hz
 have HZ := zh hz
 clear hz
 have b1 := blk1 w (z0i L vs vr vt) (.cells #[.int .i64 t.start, .slice aj t.jny.length cj] 218)
 have b2 := blk2 w (z0i L vs vr vt) (.cells #[.int .i64 t.start, .slice aj t.jny.length cj] 218)
 have BB := zh (And.intro b1 b2)
 clear b1 b2
 generalize decide (t.start < L.sw.length) = c1 at *
 generalize L.flankedB t.start = c2 at *
 generalize L.joins t.start t.jny = c4 at *
 go_enter Tryz.func159, Tryz.ntmps159
 go_wp2_with fail
 refine (uh H1 _ (z06 (o1 := z0i L vs vr vt) (Below.refl _ _))).mono ?_
 rintro e w1 ⟨rfl, hb1⟩
 have HB := zh (show Below (w.heap.size + 2) ((w.alloc (z0i L vs vr vt)).alloc (.cells #[.int .i64 t.start, .slice aj t.jny.length cj] 218)) w1 from hb1.mono (by simp))
 clear hb1
 have qs := z17 (uh HB)
 obtain ⟨⟨q0, q1, q2, q3, q4, q5⟩, -, -⟩ := six0 (((uh HB).block _ (by omega)).trans (uh BB).1)
 obtain ⟨⟨y0, y1⟩, -, -⟩ := duo0 (((uh HB).block _ (by omega)).trans (uh BB).2)
 cases c1 with
 | false =>
  have HZ2 := zh (show z = false from uh HZ)
  clear HZ h3
  go_wp2
  go_ret
  exact ⟨z04 (uh HZ2).symm, z06 (uh HB)⟩
 | true =>
  go_wp2_with fail
  refine (uh H2 _ (z06 (uh HB))).mono ?_
  rintro e w2 ⟨rfl, hb2⟩
  have HBn := zh ((uh HB).trans (hb2.mono (B' := w.heap.size + 2) (by omega)))
  clear HB qs q0 q1 q2 q3 q4 q5 y0 y1 hb2
  have HB := HBn
  clear HBn
  cases c2 with
  | true =>
   have HZ2 := zh (show z = false from uh HZ)
   clear HZ h3
   go_wp2
   go_ret
   exact ⟨z04 (uh HZ2).symm, z06 (uh HB)⟩
  | false =>
   have HZ1 := zh (show z = (!ahead.any (fun o => o.start == t.start) && c4) from uh HZ)
   clear HZ
   go_wp2
   go_loopw [22] (fun i wr => ∃ k : Nat, i = .int .i64 k /\ k <= ahead.length /\ (ahead.take k).any (fun o => o.start == t.start) = false ∧
     Below (w.heap.size + 2) ((w.alloc (z0i L vs vr vt)).alloc (.cells #[.int .i64 t.start, .slice aj t.jny.length cj] 218)) wr) (fun i _ => ahead.length - (intOf i).toNat)
   case atStart => exact ⟨0, rfl, Nat.zero_le _, rfl, uh HB⟩
   case round =>
   clear HB
   obtain ⟨k, rfl, hk, hno, hb⟩ := hrel
   have HNO := zh hno
   have HB := zh hb
   have qs := z17 hb
   obtain ⟨⟨q0, q1, q2, q3, q4, q5⟩, -, -⟩ := six0 ((hb.block _ (by omega)).trans (uh BB).1)
   obtain ⟨⟨y0, y1⟩, -, -⟩ := duo0 ((hb.block _ (by omega)).trans (uh BB).2)
   clear hno
   by_cases hlt : k < ahead.length
   ·obtain ⟨g, off, hao, hg, cs, -, hC, hc⟩ := h3 k hlt
    subst hao
    obtain ⟨vj2, rfl, hJ2⟩ := hC
    have hc0 := hc 0 (by omega)
    have hc1 := hc 1 (by omega)
    rw [<- (z06 hb).cell (p := ⟨g, _, none⟩) hg] at hc0 hc1
    simp at hc0 hc1
    have hgw : g < wr.heap.size := by omega
    obtain ⟨a2, d2, rfl, -, -, -⟩ := SlAt.open hJ2
    have HA := zh (z2n (fun o => o.start == t.start) ahead k hlt)
    have hmem := zh (List.getElem_mem hlt)
    clear hc h3 hJ2 hb
    generalize ahead[k] = T2 at *
    by_cases hx : T2.start = t.start
    ·have d : ((T2.start : Int) == (t.start : Int)) = true := by simp; omega
     have HZ2 := zh (show z = false by
      rw [uh HZ1, List.any_eq_true.2 ⟨T2, uh hmem, by simpa using hx⟩]; rfl)
     clear hx HZ1
     go_wp2
     go_ret
     exact ⟨z04 (uh HZ2).symm, (z06 (uh HB)).alloc (by have := (z06 (uh HB)).size; omega) _⟩
    ·have d : ((T2.start : Int) == (t.start : Int)) = false := by simp; omega
     have HX := zh (show (T2.start == t.start) = false by simpa using hx)
     clear hx
     go_wp2
     exact ⟨⟨k + 1, by go_num, by omega, by rw [uh HA, uh HNO, uh HX]; rfl, (uh HB).alloc (by omega) _⟩, by simp [intOf]; omega⟩
   ·have HZ2 := zh (show z = c4 by
     rw [List.take_of_length_le (by omega)] at HNO
     rw [uh HZ1, uh HNO]; rfl)
    clear h3 hb
    go_wp2_with fail
    refine (uh H3 _ (z06 (uh HB))).mono ?_
    rintro e w3 ⟨rfl, hb3⟩
    have hb4 := zh ((z06 (uh HB)).trans (hb3.mono (z06 (uh HB)).size))
    clear hb3
    go_wp2
    go_ret
    exact ⟨z04 (uh HZ2).symm, uh hb4⟩
set_option maxHeartbeats 1000000 in
theorem sizesFit_any (v : Value) (L : Lay) (w : World) (h : CLay w v L) :
  Calls Tryz.prog 157 #[v] w fun e w' => e = .returned (.bool (!L.big)) /\ Below w.heap.size w w' := by
 obtain ⟨vh, vr, vt, rfl, hH, hR, hT⟩ := h
 obtain ⟨aoh, caph, rfl, h1, h2, -⟩ := SlAt.open hH
 obtain ⟨aor, capr, rfl, r1, r2, r3⟩ := SlAt.open hR
 obtain ⟨aot, capt, rfl, t1, t2, t3⟩ := SlAt.open hT
 clear hH hR hT
 unfold maxLen at h2 r2 t2
 obtain ⟨z, hz⟩ : ∃ z, z = !L.big := ⟨_, rfl⟩
 rw [<- hz]
 have HZ := zh hz
 clear hz
 by_cases c1 : 16 < L.sw.length
 ·have hz := zh (show z = false by rw [uh HZ]; simp [Lay.big, c1])
  have c1' : (16 : Int) < L.sw.length := by omega
  clear r3 t3
  go_enter Tryz.func157, Tryz.ntmps157
  go_wp2
  go_ret
  exact ⟨z04 (uh hz).symm, z02 _ _⟩
 by_cases c2 : 12 < L.rts.length
 ·have hz := zh (show z = false by rw [uh HZ]; simp [Lay.big, c2])
  have c1' : ¬ (16 : Int) < L.sw.length := by omega
  clear r3 t3
  go_enter Tryz.func157, Tryz.ntmps157
  go_wp2
  go_ret
  exact ⟨z04 (uh hz).symm, z02 _ _⟩
 by_cases c3 : 5 < L.tns.length
 ·have hz := zh (show z = false by rw [uh HZ]; simp [Lay.big, c3])
  clear r3 t3
  go_enter Tryz.func157, Tryz.ntmps157
  go_wp2
  go_ret
  exact ⟨z04 (uh hz).symm, z02 _ _⟩
 have HZ2 := zh (show z = !(L.rts.any (fun r => decide (6 < r.path.length) || decide (4 < r.flank.length)) || L.tns.any (fun t => decide (8 < t.jny.length))) by rw [uh HZ]; simp [Lay.big, c1, c2, c3])
 clear HZ
 go_enter Tryz.func157, Tryz.ntmps157
 go_wp2
 go_loopw [26] (fun i wr => ∃ k : Nat, k <= L.rts.length /\ i = .int .i64 k /\ (L.rts.take k).any (fun r => decide (6 < r.path.length) || decide (4 < r.flank.length)) = false ∧
   Below (w.heap.size + 1) (w.alloc (z0i L (.slice aoh L.sw.length caph) (.slice aor L.rts.length capr) (.slice aot L.tns.length capt))) wr) (fun i _ => L.rts.length - (intOf i).toNat)
 case atStart => exact ⟨0, Nat.zero_le _, rfl, rfl, Below.refl _ _⟩
 case round =>
  obtain ⟨k, hk, rfl, hz, hb⟩ := hrel
  have HQ := zh hz
  have HB := zh hb
  obtain ⟨q0, q1, q2, q3, q4, q5, qs⟩ := z2u hb
  clear hz
  by_cases hlt : k < L.rts.length
  ·have HA := zh (z2n (fun r : Rt => decide (6 < r.path.length) || decide (4 < r.flank.length)) L.rts k hlt)
   obtain ⟨g, off, hao, hg, cs, -, hC, hc⟩ := r3 k hlt
   subst hao
   obtain ⟨vp, vf, rfl, hP, hF⟩ := hC
   have hc0 := hc 0 (by omega)
   have hc1 := hc 1 (by omega)
   have hc2 := hc 2 (by omega)
   rw [<- (z05 hb).cell (p := ⟨g, _, none⟩) hg] at hc0 hc1 hc2
   obtain ⟨aop, capp, rfl, p1, p2, -⟩ := SlAt.open hP
   obtain ⟨aof, capf, rfl, f1, f2, -⟩ := SlAt.open hF
   have hgw : g < wr.heap.size := by omega
   clear hc r3 t3 hP hF hb
   unfold maxLen at p2 f2
   simp at hc0 hc1 hc2
   have hmem : L.rts[k] ∈ L.rts := List.getElem_mem hlt
   have HM := zh (fun (h : (decide (6 < L.rts[k].path.length) || decide (4 < L.rts[k].flank.length)) = true) => show z = false by
    rw [uh HZ2, List.any_eq_true.2 ⟨_, hmem, h⟩]; rfl)
   clear hmem
   generalize L.rts[k].foot = ft at *
   generalize L.rts[k].path = pp at *
   generalize L.rts[k].flank = ff at *
   by_cases d1 : 6 < pp.length
   ·have hz := zh (uh HM (by simp [d1]))
    have hb3 := zh ((uh HB).alloc qs (.cells #[.int .i64 ft, .slice aop pp.length capp, .slice aof ff.length capf] 124))
    have d1' : (6 : Int) < pp.length := by omega
    go_wp2
    go_ret
    exact ⟨z04 (uh hz).symm, z05 (uh hb3)⟩
   by_cases d2 : 4 < ff.length
   ·have hz := zh (uh HM (by simp [d2]))
    have hb3 := zh ((uh HB).alloc qs (.cells #[.int .i64 ft, .slice aop pp.length capp, .slice aof ff.length capf] 124))
    go_wp2
    go_ret
    exact ⟨z04 (uh hz).symm, z05 (uh hb3)⟩
   ·have hb3 := zh ((uh HB).alloc qs (.cells #[.int .i64 ft, .slice aop pp.length capp, .slice aof ff.length capf] 124))
    go_wp2
    exact ⟨⟨k + 1, by omega, by go_num, by rw [uh HA, uh HQ]; simp; omega, uh hb3⟩, by simp [intOf]; omega⟩
  ·have HZ3 := zh (show z = !L.tns.any (fun t => decide (8 < t.jny.length)) by
    have e := uh HQ
    rw [List.take_of_length_le (by omega)] at e
    rw [uh HZ2, e, Bool.false_or])
   clear HZ2 hb
   go_wp2
   go_loopw [44] (fun i wr => ∃ k : Nat, k <= L.tns.length /\ i = .int .i64 k /\ (L.tns.take k).any (fun t => decide (8 < t.jny.length)) = false ∧
     Below (w.heap.size + 1) (w.alloc (z0i L (.slice aoh L.sw.length caph) (.slice aor L.rts.length capr) (.slice aot L.tns.length capt))) wr) (fun i _ => L.tns.length - (intOf i).toNat)
   case atStart => exact ⟨0, Nat.zero_le _, rfl, rfl, uh HB⟩
   case round =>
    clear HQ HB q0 q1 q2 q3 q4 q5 qs hk hlt
    obtain ⟨k, hk, rfl, hz, hb⟩ := hrel
    have HQ := zh hz
    have HB := zh hb
    obtain ⟨q0, q1, q2, q3, q4, q5, qs⟩ := z2u hb
    clear hz
    by_cases hlt : k < L.tns.length
    ·have HA := zh (z2n (fun t : Tn => decide (8 < t.jny.length)) L.tns k hlt)
     obtain ⟨g, off, hao, hg, cs, -, hC, hc⟩ := t3 k hlt
     subst hao
     obtain ⟨vj, rfl, hJ⟩ := hC
     have hc0 := hc 0 (by omega)
     have hc1 := hc 1 (by omega)
     rw [<- (z05 hb).cell (p := ⟨g, _, none⟩) hg] at hc0 hc1
     obtain ⟨aoj, capj, rfl, j1, j2, -⟩ := SlAt.open hJ
     have hgw : g < wr.heap.size := by omega
     clear hc r3 t3 hJ hb
     unfold maxLen at j2
     simp at hc0 hc1
     have hmem : L.tns[k] ∈ L.tns := List.getElem_mem hlt
     have HM := zh (fun (h : decide (8 < L.tns[k].jny.length) = true) => show z = false by
      rw [uh HZ3, List.any_eq_true.2 ⟨_, hmem, h⟩]; rfl)
     clear hmem
     generalize L.tns[k].start = st at *
     generalize L.tns[k].jny = jl at *
     have hb3 := zh ((uh HB).alloc qs (.cells #[.int .i64 st, .slice aoj jl.length capj] 218))
     by_cases d1 : 8 < jl.length
     ·have hz := zh (uh HM (by simp [d1]))
      go_wp2
      go_ret
      exact ⟨z04 (uh hz).symm, z05 (uh hb3)⟩
     ·go_wp2
      exact ⟨⟨k + 1, by omega, by go_num, by rw [uh HA, uh HQ]; simp; omega, uh hb3⟩, by simp [intOf]; omega⟩
    ·have hz := zh (show z = true by
      have e := uh HQ
      rw [List.take_of_length_le (by omega)] at e
      rw [uh HZ3, e]; rfl)
     have hb3 := z05 (uh HB)
     clear hb
     go_wp2
     go_ret
     exact ⟨z04 (uh hz).symm, hb3⟩
theorem SlAt.take {α : Type} {e : TypeId} {sz : Nat} {C : World -> α -> List Value -> Prop} {w : World} {ao : Option Addr} {n c : Nat} {l : List α} (h : SlAt e sz C w (.slice ao n c) l) (i : Nat) (hi : i <= l.length) : SlAt e sz C w (.slice ao i c) (l.take i) := by
 obtain ⟨ao', cap', he, h1, h2, h3⟩ := h
 simp only [Value.slice.injEq] at he
 obtain ⟨rfl, rfl, rfl⟩ := he
 have hl : (l.take i).length = i := by simp; omega
 refine ⟨ao, c, by rw [hl], by omega, h2, ?_⟩
 rcases h3 with h3 | ⟨g, off, cur, fr, ha, hg, hc⟩
 ·left; rw [h3]; simp
 ·right
  refine ⟨g, off, cur, fr, ha, hg, fun j hj => ?_⟩
  obtain ⟨cs, a, b, d⟩ := hc j (by omega)
  refine ⟨cs, a, ?_, d⟩
  rw [List.getElem_take]; exact b
def Lay.checkOf (L : Lay) : Nat × Nat :=
 if L.big then (3, 0)
 else match (List.range L.rts.length).find? (fun i => !L.routeOK (L.rt i)) with
  | some i => (4, i)
  | none => match (List.range L.tns.length).find? (fun i => !L.trainOK (L.tn i) (L.tns.take i)) with
   | some i => (5, i)
   | none => (0, 0)
set_option maxHeartbeats 4000000 in
theorem cCheck_any (v : Value) (L : Lay) (w : World) (h : CLay w v L) (hp : L.Paths) :
  Calls Tryz.prog 111 #[v] w fun e w' => e = .returned (.tuple #[.int .i64 L.checkOf.1, .int .i64 L.checkOf.2]) /\ Below w.heap.size w w' := by
 have HL := zh h
 obtain ⟨vs, vr, vt, rfl, hS, hR, hT⟩ := h
 have HTT := zh hT
 obtain ⟨ah, ch, rfl, -, -, -⟩ := SlAt.open hS
 obtain ⟨ar, cr, rfl, -, r2, r3⟩ := SlAt.open hR
 obtain ⟨at_, ct, rfl, -, t2, t3⟩ := SlAt.open hT
 unfold maxLen at r2 t2
 have HP := zh hp
 have HR3 := zh r3
 have HT3 := zh t3
 obtain ⟨E, hE⟩ : ∃ E, E = L.checkOf := ⟨_, rfl⟩
 rw [<- hE]
 unfold Lay.checkOf at hE
 have HE := zh hE
 clear hE hS hR hT hp r3 t3
 have H1 := zh (fun (wz : World) (hz : Below w.heap.size w wz) => sizesFit_any _ L wz ((uh HL).below hz))
 go_enter Tryz.func111, Tryz.ntmps111
 go_wp2_with fail
 refine (uh H1 _ (z02 w (z0i L _ _ _))).mono ?_
 rintro e w1 ⟨rfl, hb1⟩
 have HB := zh (show Below (w.heap.size + 1) (w.alloc (z0i L (.slice ah L.sw.length ch) (.slice ar L.rts.length cr) (.slice at_ L.tns.length ct))) w1 from hb1.mono (by simp))
 clear hb1 H1
 cases hbig : L.big with
 | true =>
  rw [hbig, if_pos rfl] at HE
  clear hbig
  go_wp2
  go_ret2
  exact ⟨by rw [uh HE] <;> rfl, z05 (uh HB)⟩
 | false =>
  have hrl : L.rts.length <= 12 /\ L.tns.length <= 5 := by
   unfold Lay.big at hbig
   simp only [Bool.or_eq_false_iff, decide_eq_false_iff_not] at hbig
   omega
  obtain ⟨hrl, htl⟩ := hrl
  rw [hbig, if_neg (by simp)] at HE
  clear hbig
  go_wp2
  go_loopg [4] L.rts.length (fun n i wr => ∃ k : Nat, i = .int .i64 k /\ n + k = L.rts.length /\ (∀ j, j < k -> (!L.routeOK (L.rt j)) = false) ∧
    Below (w.heap.size + 1) (w.alloc (z0i L (.slice ah L.sw.length ch) (.slice ar L.rts.length cr) (.slice at_ L.tns.length ct))) wr)
  case atStart => exact ⟨0, rfl, by omega, fun j h => by omega, uh HB⟩
  case round =>
   clear HB
   obtain ⟨k, rfl, hk, hno, hb⟩ := hrel
   have HNO := zh hno
   have HB := zh hb
   have HK := zh hk
   obtain ⟨t0, t1, t2', t3, t4, t5, qs⟩ := z2u hb
   have hk' : k <= L.rts.length := by omega
   clear hno hk
   by_cases hlt : k < L.rts.length
   ·obtain ⟨gr, offr, hao, hgr, cs, -, hC, hc⟩ := uh HR3 k hlt
    subst hao
    obtain ⟨vp, vf, hcs, d1, d2⟩ := hC
    subst hcs
    have e0 := hc 0 (by omega)
    have e1 := hc 1 (by omega)
    have e2 := hc 2 (by omega)
    rw [<- (z05 hb).cell (p := ⟨gr, _, none⟩) hgr] at e0 e1 e2
    simp at e0 e1 e2
    have HRT := zh (rt_eq L k hlt)
    have HV := zh (show VRt w (.agg #[.int .i64 L.rts[k].foot, vp, vf]) L.rts[k] from ⟨_, _, rfl, d1, d2⟩)
    obtain ⟨ap, cp, rfl, -, -, -⟩ := SlAt.open d1
    obtain ⟨af, cf, rfl, -, -, -⟩ := SlAt.open d2
    have hcr := zh (fun (wz : World) (hz : Below w.heap.size w wz) => routeRight_any _ _ L L.rts[k] wz ((uh HL).below hz) ((uh HV).below hz) (uh HP))
    have l0 : (0 : Int) <= k := by omega
    have l1 : (k : Int) < L.rts.length := by omega
    clear hc d1 d2 hb
    generalize L.rts[k] = R at *
    generalize hok : L.routeOK R = ok at *
    have HOK := zh hok
    clear hok
    go_wp2
    go_cut [23] (fun u wx => u = .bool (!ok) /\ Below (w.heap.size + 1) (w.alloc (z0i L (.slice ah L.sw.length ch) (.slice (some ⟨gr, offr, none⟩) L.rts.length cr) (.slice at_ L.tns.length ct))) wx)
    case first =>
     go_region_with (go_at_call 158; refine (uh hcr _ ?_).mono ?_; exact (z05 (uh HB)).drew; rintro e w3 ⟨rfl, hb3⟩)
     all_goals
      have hbx3 := zh (((uh HB).drew).trans (hb3.mono (B' := w.heap.size + 1) qs))
      clear hb3
      go_wp2_with fail
      go_meet
      exact ⟨rfl, uh hbx3⟩
    case rest =>
     obtain ⟨rfl, hbx3⟩ := hcut
     clear HB t0 t1 t2' t3 t4 t5 e0 e1 e2
     have HB := zh hbx3
     clear hbx3
     cases ok with
     | false =>
      have HE2 := zh (show E = (4, k) by
       rw [uh HE, find_some (fun i => !L.routeOK (L.rt i)) _ k hlt (uh HNO) (by rw [uh HRT, uh HOK]; rfl)])
      clear HE
      go_wp2
      go_ret2
      exact ⟨by rw [uh HE2] <;> rfl, z05 (uh HB)⟩
     | true =>
      have hnk := zh (show ∀ j, j < k + 1 -> (!L.routeOK (L.rt j)) = false by
       intro j hj
       rcases Nat.lt_or_ge j k with h | h
       ·exact uh HNO j h
       ·obtain rfl : j = k := by omega
        rw [uh HRT, uh HOK]; rfl)
      go_wp2
      go_roundg (gk - 1)
      case measure => have := uh HK; omega
      case rel => exact ⟨k + 1, by go_num, by have := uh HK; omega, uh hnk, uh HB⟩
   ·have HE2 := zh (show E = (match (List.range L.tns.length).find? (fun i => !L.trainOK (L.tn i) (L.tns.take i)) with
      | some i => (5, i)
      | none => (0, 0)) by
     obtain rfl : k = L.rts.length := by omega
     rw [uh HE, find_none (fun i => !L.routeOK (L.rt i)) _ (uh HNO)])
    clear HE hb HNO HK
    go_wp2
    go_loopg [5] L.tns.length (fun n i wr => ∃ k : Nat, i = .int .i64 k /\ n + k = L.tns.length /\ (∀ j, j < k -> (!L.trainOK (L.tn j) (L.tns.take j)) = false) ∧
      Below (w.heap.size + 1) (w.alloc (z0i L (.slice ah L.sw.length ch) (.slice ar L.rts.length cr) (.slice at_ L.tns.length ct))) wr)
    case atStart => exact ⟨0, rfl, by omega, fun j h => by omega, uh HB⟩
    case round =>
    clear HB t0 t1 t2' t3 t4 t5 qs hk' hlt
    obtain ⟨k, rfl, hk, hno, hb⟩ := hrel
    have HNO := zh hno
    have HB := zh hb
    have HK := zh hk
    have hk' : k <= L.tns.length := by omega
    obtain ⟨t0, t1, t2', t3, t4, t5, qs⟩ := z2u hb
    clear hno hk
    by_cases hlt : k < L.tns.length
    ·obtain ⟨gr, offr, hao, hgr, cs, -, hC, hc⟩ := uh HT3 k hlt
     subst hao
     obtain ⟨vj, hcs, d1⟩ := hC
     subst hcs
     have e0 := hc 0 (by omega)
     have e1 := hc 1 (by omega)
     rw [<- (z05 hb).cell (p := ⟨gr, _, none⟩) hgr] at e0 e1
     simp at e0 e1
     have HTN := zh (tn_eq L k hlt)
     have HV := zh (show VTn w (.agg #[.int .i64 L.tns[k].start, vj]) L.tns[k] from ⟨_, rfl, d1⟩)
     obtain ⟨ap, cp, rfl, -, -, -⟩ := SlAt.open d1
     have hcr := zh (fun (wz : World) (hz : Below w.heap.size w wz) => trainRight_any _ _ _ L L.tns[k] (L.tns.take k) wz ((uh HL).below hz) ((uh HV).below hz) (Tns.keep (SlAt.take (uh HTT) k hk') (Keeps.below hz) (Keeps.below hz)) (uh HP))
     have l0 : (0 : Int) <= k := by omega
     have l1 : (k : Int) < L.tns.length := by omega
     have l2 : (k : Int) <= ct := by have := (uh HTT).open; obtain ⟨a, c, he, hle, -⟩ := this; simp only [Value.slice.injEq] at he; omega
     clear hc d1 hb
     generalize L.tns[k] = R at *
     generalize hok : L.trainOK R (L.tns.take k) = ok at *
     have HOK := zh hok
     clear hok
     go_wp2
     go_cut [43] (fun u wx => u = .bool (!ok) /\ Below (w.heap.size + 1) (w.alloc (z0i L (.slice ah L.sw.length ch) (.slice ar L.rts.length cr) (.slice (some ⟨gr, offr, none⟩) L.tns.length ct))) wx)
     case first =>
      go_region_with (go_at_call 159; refine (uh hcr _ ?_).mono ?_; exact (z05 (uh HB)).drew; rintro e w3 ⟨rfl, hb3⟩)
      all_goals
       have hbx3 := zh (((uh HB).drew).trans (hb3.mono (B' := w.heap.size + 1) qs))
       clear hb3
       go_wp2_with fail
       go_meet
       exact ⟨rfl, uh hbx3⟩
     case rest =>
      obtain ⟨rfl, hbx3⟩ := hcut
      clear HB t0 t1 t2' t3 t4 t5 e0 e1
      have HB := zh hbx3
      clear hbx3
      cases ok with
      | false =>
       have HE3 := zh (show E = (5, k) by
        rw [uh HE2, find_some (fun i => !L.trainOK (L.tn i) (L.tns.take i)) _ k hlt (uh HNO) (by rw [uh HTN, uh HOK]; rfl)])
       clear HE2
       go_wp2
       go_ret2
       exact ⟨by rw [uh HE3] <;> rfl, z05 (uh HB)⟩
      | true =>
       have hnk := zh (show ∀ j, j < k + 1 -> (!L.trainOK (L.tn j) (L.tns.take j)) = false by
        intro j hj
        rcases Nat.lt_or_ge j k with h | h
        ·exact uh HNO j h
        ·obtain rfl : j = k := by omega
         rw [uh HTN, uh HOK]; rfl)
       go_wp2
       go_roundg (gk - 1)
       case measure => have := uh HK; omega
       case rel => exact ⟨k + 1, by go_num, by have := uh HK; omega, uh hnk, uh HB⟩
    ·have HE3 := zh (show E = (0, 0) by
      obtain rfl : k = L.tns.length := by omega
      rw [uh HE2, find_none (fun i => !L.trainOK (L.tn i) (L.tns.take i)) _ (uh HNO)])
     clear HE2 hb HNO HK
     go_wp2
     go_ret2
     exact ⟨by rw [uh HE3] <;> rfl, z05 (uh HB)⟩
end Go.Proofs.YtkbpocecbcaiiaaGreatDoor
