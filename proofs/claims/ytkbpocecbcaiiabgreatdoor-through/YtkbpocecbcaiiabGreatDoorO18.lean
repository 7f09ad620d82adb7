import Derived.Test.YtkbpocecbcaiiabGreatDoorO17
namespace Go.Proofs.YtkbpocecbcaiiabGreatDoor
open Go.RowKit
def optN : Option Nat -> Nat
 | none => 0
 | some r => r
set_option maxHeartbeats 1000000 in
theorem lockedBy_any (g : Nat) (B : PBx) (s : Nat) (w : World) (h : PBoxAt w g B) (hr : B.rts.length <= 1000) (hf : ∀ x, x ∈ B.rts -> x.freed <= 1000) :
  Calls Tryz.prog 83 #[.pointer (some ⟨g, 0, none⟩), .int .i64 s] w fun e w' => e = .returned (.tuple #[.int .i64 (optN (B.lockedBy s)), .bool (B.lockedBy s).isSome]) /\ Below w.heap.size w w' := by
 obtain ⟨vs, vr, vt, vl, vw, va, vq, hB, -, hL, -⟩ := h
 obtain ⟨al, cl, rfl, -, hml, l3⟩ := SlAt.open hL
 obtain ⟨⟨-, -, -, -, -, -, q6, -⟩, -, qg⟩ := box10 hB
 have HK := zh (show ∀ k (h : k < B.rts.length), B.lockB s k = B.rts[k].lockB s by
  intro k h
  unfold PBx.lockB
  rw [List.getD_eq_getElem?_getD, List.getElem?_eq_getElem h]; rfl)
 unfold PBx.lockedBy
 generalize hlb : B.lockB s = f at *
 clear hlb
 generalize B.rts = ls at *
 unfold maxLen at hml
 obtain ⟨Z, hZ⟩ : ∃ Z, Z = (List.range ls.length).find? f := ⟨_, rfl⟩
 rw [<- hZ]
 have HZ := zh hZ
 clear hL hB hZ
 have HF := zh hf
 clear hf
 go_enter Tryz.func83, Tryz.ntmps83
 go_wp2
 go_loopw [12] (fun i wr => ∃ k : Nat, k <= ls.length /\ i = .int .i64 k /\ (∀ j, j < k -> f j = false) /\ Below w.heap.size w wr) (fun i _ => ls.length - (intOf i).toNat)
 case atStart => exact ⟨0, Nat.zero_le _, rfl, fun j h => by omega, Below.refl _ _⟩
 case round =>
  obtain ⟨k, hk, rfl, hno, hb⟩ := hrel
  have HNO := zh hno
  have HB := zh hb
  have hbs := hb.size
  rw [<- hb.cell (p := ⟨g, 6, none⟩) qg] at q6
  clear hno
  by_cases hlt : k < ls.length
  ·obtain ⟨gl, ol, hal, hgl, cs, -, hC, hc⟩ := l3 k hlt
   subst hal
   have HLK := zh (locks_at gl (ol + k * 9) ls[k] cs s wr (by omega) (fun j hj => by rw [hb.cell (p := ⟨gl, _, none⟩) hgl]; exact hc j hj) (hC.keep (Keeps.below hb) (Keeps.below hb)) (uh HF _ (List.getElem_mem hlt)))
   rw [<- uh HK k hlt] at HLK
   have l1 : (k : Int) < ls.length := by omega
   clear hc hC l3 hb
   go_wp2_with fail
   refine (uh HLK).mono ?_
   rintro e w1 ⟨rfl, hb1⟩
   have HB1 := zh ((uh HB).trans (hb1.mono hbs))
   cases hfk : f k with
   | true =>
    have HZ2 := zh (show Z = some k by rw [uh HZ, rfind_some f _ k hlt (uh HNO) hfk])
    clear hb1 hfk
    go_wp2
    go_ret2
    exact ⟨by rw [uh HZ2]; rfl, uh HB1⟩
   | false =>
    have HNN := zh (show ∀ j, j < k + 1 -> f j = false by
     intro j hj
     by_cases hj' : j < k
     ·exact uh HNO j hj'
     ·obtain rfl : j = k := by omega
      exact hfk)
    clear hb1 hfk
    go_wp2
    exact ⟨⟨k + 1, by omega, by go_num, uh HNN, uh HB1⟩, by simp [intOf]; omega⟩
  ·obtain rfl : k = ls.length := by omega
   have HZ2 := zh (show Z = none by rw [uh HZ, rfind_none f _ (uh HNO)])
   clear l3 hb
   go_wp2
   go_ret2
   exact ⟨by rw [uh HZ2]; rfl, uh HB⟩
set_option maxHeartbeats 1000000 in
theorem pLocks_any (g : Nat) (B : PBx) (w : World) (h : PBoxAt w g B) (hs : B.L.sw.length <= 1000) (hr : B.rts.length <= 100) (hf : ∀ x, x ∈ B.rts -> x.freed <= 1000) :
  Calls Tryz.prog 41 #[.pointer (some ⟨g, 0, none⟩)] w fun e w' => e = .returned (.string (z0i B.locksT)) /\ Below w.heap.size w w' := by
 have HLB := zh (fun (s : Nat) (wz : World) (hz : Below w.heap.size w wz) => lockedBy_any g B s wz (h.below hz) (by omega) hf)
 have HR := zh (show ∀ s r, B.lockedBy s = some r -> r < 100 by
  intro s r he
  unfold PBx.lockedBy at he
  have := List.mem_range.1 (List.mem_of_find?_eq_some he)
  omega)
 obtain ⟨vs, vr, vt, vl, vw, va, vq, hB, ⟨_, _, _, he, hS, -, -⟩, -⟩ := h
 simp only [Value.agg.injEq, Array.mk.injEq, List.cons.injEq, and_true, true_and] at he
 obtain ⟨rfl, rfl, rfl⟩ := he
 obtain ⟨ao, cap, rfl, -, hm, -⟩ := SlAt.open hS
 obtain ⟨⟨-, -, -, q3, -⟩, -, qg⟩ := box10 hB
 unfold PBx.locksT
 generalize B.lockedBy = f at *
 generalize B.L.sw = l at *
 unfold maxLen at hm
 clear hS hB hf
 obtain ⟨i0, hi0⟩ := info_parts Tryz.infoByte
 have HIB := zh hi0
 clear hi0
 go_enter Tryz.func41, Tryz.ntmps41
 go_wp2
 go_loopw [3, 13] (fun d i wr => ∃ k : Nat, k <= l.length /\ i = .int .i64 k /\ wr.ownsRow w.heap.size 5 1 d k (bytsV ((List.range k).map (fun s => lockC (f s)))) /\ Below w.heap.size w wr) (fun _ i _ => l.length - (intOf i).toNat)
 case atStart => exact ⟨0, Nat.zero_le _, rfl, World.ownsRow_nil _ _ _ _, Below.refl _ _⟩
 case round =>
  obtain ⟨k, hk, rfl, hown, hb⟩ := hrel
  have HB := zh hb
  have hbs := hb.size
  by_cases hlt : k < l.length
  ·have l1 : (k : Int) < l.length := by omega
   obtain ⟨ah, ch, hvh⟩ := z02 hown
   subst hvh
   clear hb
   go_wp2_with fail
   refine (uh HLB k wr (uh HB)).mono ?_
   rintro e w1 ⟨rfl, hb1⟩
   have hown1 := z0j hown hb1
   have hb2 := (uh HB).trans (hb1.mono hbs)
   have hbs2 := hb2.size
   have HB2 := zh hb2
   have HRK := zh (uh HR k)
   have HSN := zh (show bytsV ((List.range (k + 1)).map (fun s => lockC (f s))) = bytsV ((List.range k).map (fun s => lockC (f s))) ++ [.int .u8 (lockC (f k) : Nat)] by
    rw [List.range_succ, List.map_append]; exact z2g _ _)
   clear hb1 hown hb2
   generalize f k = o at *
   cases o with
   | none =>
    go_wp2_with (at_builtin; refine wpList_append_own _ rfl _ _ 74 rfl w.heap.size 5 i0 (.int .u8 0) 1 1 Tryz.underlying74 (uh HIB).1 (uh HIB).2.1 (uh HIB).2.2.1 (uh HIB).2.2.2 rfl (by decide) _ _ _ rfl (hown1.alloc _) ⟨w1.heap.size, 0, none⟩ 1 1 [.int .u8 46] rfl rfl (z0q _ _ _) (z0a rfl) (by unfold maxLen; omega) (by omega) (by simp; omega) ?_; intro v' w2 hown2 hgrow _)
    exact ⟨⟨k + 1, by omega, by go_num, by rw [uh HSN]; exact hown2, z0p (uh HB2) hbs2 hown1 hgrow⟩, by simp [intOf]; omega⟩
   | some r =>
    have hr1 := uh HRK r rfl
    have u1 := wrap8 (r : Int) (by omega) (by omega)
    have u2 := wrap8 (65 + (r : Int)) (by omega) (by omega)
    simp only [optN, Option.isSome]
    go_wp2_with (at_builtin; refine wpList_append_own _ rfl _ _ 74 rfl w.heap.size 5 i0 (.int .u8 0) 1 1 Tryz.underlying74 (uh HIB).1 (uh HIB).2.1 (uh HIB).2.2.1 (uh HIB).2.2.2 rfl (by decide) _ _ _ rfl (hown1.alloc _) ⟨w1.heap.size, 0, none⟩ 1 1 [.int .u8 (65 + (r : Int))] rfl rfl (z0q _ _ _) (z0a rfl) (by unfold maxLen; omega) (by omega) (by simp; omega) ?_; intro v' w2 hown2 hgrow _)
    exact ⟨⟨k + 1, by omega, by go_num, by rw [uh HSN]; simpa [lockC] using hown2, z0p (uh HB2) hbs2 hown1 hgrow⟩, by simp [intOf]; omega⟩
  ·obtain rfl : k = l.length := by omega
   have hcv := byts_str (Byts.ofOwn hown (by simp))
   obtain ⟨ah, ch, hvh⟩ := z02 hown
   subst hvh
   clear hown hb
   go_wp2
   go_ret
   exact ⟨rfl, uh HB⟩
set_option maxHeartbeats 1000000 in
theorem pPhases_any (g : Nat) (B : PBx) (w : World) (h : PBoxAt w g B) (hr : B.rts.length <= 1000) :
  Calls Tryz.prog 42 #[.pointer (some ⟨g, 0, none⟩)] w fun e w' => e = .returned (.string (z0i B.phasesT)) /\ Below w.heap.size w w' := by
 obtain ⟨vs, vr, vt, vl, vw, va, vq, hB, -, hL, -⟩ := h
 obtain ⟨al, cl, rfl, -, hml, l3⟩ := SlAt.open hL
 obtain ⟨⟨-, -, -, -, -, -, q6, -⟩, -, qg⟩ := box10 hB
 unfold PBx.phasesT
 generalize B.rts = l at *
 unfold maxLen at hml
 clear hL hB
 obtain ⟨i0, hi0⟩ := info_parts Tryz.infoByte
 have HIB := zh hi0
 clear hi0
 go_enter Tryz.func42, Tryz.ntmps42
 go_wp2
 go_loopw [3, 11] (fun d i wr => ∃ k : Nat, k <= l.length /\ i = .int .i64 k /\ wr.ownsRow w.heap.size 5 1 d k (bytsV ((l.take k).map (·.ph))) /\ Below w.heap.size w wr) (fun _ i _ => l.length - (intOf i).toNat)
 case atStart => exact ⟨0, Nat.zero_le _, rfl, World.ownsRow_nil _ _ _ _, Below.refl _ _⟩
 case round =>
  obtain ⟨k, hk, rfl, hown, hb⟩ := hrel
  have HB := zh hb
  have hbs := hb.size
  by_cases hlt : k < l.length
  ·have l1 : (k : Int) < l.length := by omega
   obtain ⟨ah, ch, hvh⟩ := z02 hown
   subst hvh
   obtain ⟨gl, ol, hal, hgl, cs, -, hC, hc⟩ := l3 k hlt
   subst hal
   obtain ⟨vp, vf, vm, hcs, p1, p2, p3⟩ := hC
   subst hcs
   obtain ⟨a1, d1, rfl, -⟩ := SlAt.open p1
   obtain ⟨a2, d2, rfl, -⟩ := SlAt.open p2
   obtain ⟨a3, d3, rfl, -⟩ := SlAt.open p3
   have c0 := hc 0 (by omega)
   have c1 := hc 1 (by omega)
   have c2 := hc 2 (by omega)
   have c3 := hc 3 (by omega)
   have c4 := hc 4 (by omega)
   have c5 := hc 5 (by omega)
   have c6 := hc 6 (by omega)
   have c7 := hc 7 (by omega)
   have c8 := hc 8 (by omega)
   rw [<- hb.cell (p := ⟨gl, _, none⟩) hgl] at c0 c1 c2 c3 c4 c5 c6 c7 c8
   simp at c0 c1 c2 c3 c4 c5 c6 c7 c8
   have HSN := zh (show bytsV ((l.take (k + 1)).map (·.ph)) = bytsV ((l.take k).map (·.ph)) ++ [.int .u8 (l[k].ph : Nat)] by
    rw [z4c _ _ _ hlt]; exact z2g _ _)
   clear hb hc p1 p2 p3 l3
   generalize l[k].ph = ph at *
   go_wp2_with (at_builtin; refine wpList_append_own _ rfl _ _ 74 rfl w.heap.size 5 i0 (.int .u8 0) 1 1 Tryz.underlying74 (uh HIB).1 (uh HIB).2.1 (uh HIB).2.2.1 (uh HIB).2.2.2 rfl (by decide) _ _ _ rfl ((hown.alloc _).alloc _) ⟨wr.heap.size + 1, 0, none⟩ 1 1 [.int .u8 (ph : Nat)] rfl rfl (z0t _ [.int .u8 (ph : Nat)] _ _ (by simp)) (z0a rfl) (by unfold maxLen; omega) (by omega) (by simp; omega) ?_; intro v' w2 hown2 hgrow _)
   exact ⟨⟨k + 1, by omega, by go_num, by rw [uh HSN]; exact hown2, z0p ((uh HB).alloc hbs _) (by simp; omega) (hown.alloc _) hgrow⟩, by simp [intOf]; omega⟩
  ·obtain rfl : k = l.length := by omega
   rw [List.take_length] at hown
   have hcv := byts_str (Byts.ofOwn hown (by simp))
   obtain ⟨ah, ch, hvh⟩ := z02 hown
   subst hvh
   clear hown hb l3
   go_wp2
   go_ret
   exact ⟨rfl, uh HB⟩
set_option maxHeartbeats 1000000 in
theorem pSwitches_any (g : Nat) (B : PBx) (w : World) (h : PBoxAt w g B) (hl : B.sws.length <= 1000) :
  Calls Tryz.prog 43 #[.pointer (some ⟨g, 0, none⟩)] w fun e w' => e = .returned (.string (z0i B.switchesT)) /\ Below w.heap.size w w' := by
 obtain ⟨vs, vr, vt, vl, vw, va, vq, hB, hCL, -, hW, -⟩ := h
 have HHS := zh (fun (s : Nat) (wz : World) (hz : Below w.heap.size w wz) => z22 _ B.L s wz (hCL.below hz))
 obtain ⟨_, _, _, he, hS, hR, hT⟩ := hCL
 simp only [Value.agg.injEq, Array.mk.injEq, List.cons.injEq, and_true, true_and] at he
 obtain ⟨rfl, rfl, rfl⟩ := he
 obtain ⟨a1, d1, rfl, -⟩ := SlAt.open hS
 obtain ⟨a2, d2, rfl, -⟩ := SlAt.open hR
 obtain ⟨a3, d3, rfl, -⟩ := SlAt.open hT
 obtain ⟨aw, cw, rfl, -, hmw, h3⟩ := SlAt.open hW
 obtain ⟨⟨q0, q1, q2, q3, q4, q5, -, q7, -⟩, -, qg⟩ := box10 hB
 have HT := zh (show ∀ k (h : k < B.sws.length), B.swT k = if B.L.sw.getD k false then [B.sws[k].tell] else [] by
  intro k h
  unfold PBx.swT
  rw [show B.sws.getD k PSw.new = B.sws[k] by rw [List.getD_eq_getElem?_getD, List.getElem?_eq_getElem h]; rfl])
 have hle := flat_le B.swT (by intro s; unfold PBx.swT; split <;> simp)
 unfold PBx.switchesT
 generalize B.swT = f at *
 generalize B.sws = l at *
 unfold maxLen at hmw
 have HLE := zh hle
 clear hS hR hT hW hB hle
 obtain ⟨i0, hi0⟩ := info_parts Tryz.infoByte
 have HIB := zh hi0
 clear hi0
 go_enter Tryz.func43, Tryz.ntmps43
 go_wp2
 go_loopw [3, 11] (fun d i wr => ∃ k n : Nat, k <= l.length /\ i = .int .i64 k /\ n = ((List.range k).flatMap f).length /\ wr.ownsRow w.heap.size 5 1 d n (bytsV ((List.range k).flatMap f)) /\ Below w.heap.size w wr) (fun _ i _ => l.length - (intOf i).toNat)
 case atStart => exact ⟨0, 0, Nat.zero_le _, rfl, rfl, World.ownsRow_nil _ _ _ _, Below.refl _ _⟩
 case round =>
  obtain ⟨k, n, hk, rfl, hn, hown, hb⟩ := hrel
  have HB := zh hb
  have hbs := hb.size
  have hnk := uh HLE k
  rw [<- hn] at hnk
  have HN := zh hn
  clear hn
  by_cases hlt : k < l.length
  ·have l1 : (k : Int) < l.length := by omega
   obtain ⟨ah, ch, hvh⟩ := z02 hown
   subst hvh
   obtain ⟨gl, ol, hal, hgl, cs, -, hC, hc⟩ := h3 k hlt
   subst hal
   unfold CPSw swV at hC
   subst hC
   have x0 := hc 0 (by omega)
   have x1 := hc 1 (by omega)
   have x2 := hc 2 (by omega)
   rw [<- hb.cell (p := ⟨gl, _, none⟩) hgl] at x0 x1 x2
   simp at x0 x1 x2
   rw [<- hb.cell (p := ⟨g, _, none⟩) qg] at q0 q1 q2 q3 q4 q5
   have HSN := zh (swT_snoc f k)
   rw [uh HT k hlt] at HSN
   have HTL := zh (show l[k].tell = if l[k].failed then 120 else l[k].wanted from rfl)
   clear hb hc h3
   generalize l[k].tell = tl at *
   generalize l[k].failed = fl at *
   generalize l[k].wanted = x at *
   generalize l[k].late = la at *
   have hglw : gl < wr.heap.size := by omega
   have hgw0 : g < wr.heap.size := by omega
   go_wp2_with fail
   refine (uh HHS k _ ((uh HB).alloc hbs _)).mono ?_
   rintro e w1 ⟨rfl, hb1⟩
   have hx : w1.heap[wr.heap.size]? = some (.cells #[.int .u8 x, .int .i64 la, .bool fl] 110 (0, 0)) := (hb1.block _ (by simp)).trans (heap_alloc_new _ _)
   obtain ⟨⟨z0, z1, z2⟩, -, qz⟩ := tri0 hx
   have hown1 := z0j (hown.alloc _) hb1
   have hb2 := ((uh HB).alloc hbs _).trans (hb1.mono (by simp; omega))
   have hbs2 := hb2.size
   have HB2 := zh hb2
   clear hb1 hown hb2 q0 q1 q2 q3 q4 q5 x0 x1 x2 hx
   generalize B.L.sw.getD k false = b at *
   cases b with
   | false =>
    go_wp2
    exact ⟨⟨k + 1, n, by omega, by go_num, by rw [uh HSN]; simpa using uh HN, by rw [uh HSN]; simpa using hown1, uh HB2⟩, by simp [intOf]; omega⟩
   | true =>
    cases fl with
    | false =>
     have HTX := zh (show tl = x by rw [uh HTL]; rfl)
     go_wp2_with (at_builtin; refine wpList_append_own _ rfl _ _ 74 rfl w.heap.size 5 i0 (.int .u8 0) 1 1 Tryz.underlying74 (uh HIB).1 (uh HIB).2.1 (uh HIB).2.2.1 (uh HIB).2.2.2 rfl (by decide) _ _ _ rfl (hown1.alloc _) ⟨w1.heap.size, 0, none⟩ 1 1 [.int .u8 (x : Nat)] rfl rfl (z0q _ _ _) (z0a rfl) (by unfold maxLen; omega) (by omega) (by simp; omega) ?_; intro v' w2 hown2 hgrow _)
     exact ⟨⟨k + 1, n + 1, by omega, by go_num, by rw [uh HSN]; simp [<- uh HN], by rw [uh HSN, uh HTX]; simpa [bytsV] using hown2, z0p (uh HB2) hbs2 hown1 hgrow⟩, by simp [intOf]; omega⟩
    | true =>
     have HTX := zh (show tl = 120 by rw [uh HTL]; rfl)
     go_wp2_with (at_builtin; refine wpList_append_own _ rfl _ _ 74 rfl w.heap.size 5 i0 (.int .u8 0) 1 1 Tryz.underlying74 (uh HIB).1 (uh HIB).2.1 (uh HIB).2.2.1 (uh HIB).2.2.2 rfl (by decide) _ _ _ rfl (hown1.alloc _) ⟨w1.heap.size, 0, none⟩ 1 1 [.int .u8 120] rfl rfl (z0q _ _ _) (z0a rfl) (by unfold maxLen; omega) (by omega) (by simp; omega) ?_; intro v' w2 hown2 hgrow _)
     exact ⟨⟨k + 1, n + 1, by omega, by go_num, by rw [uh HSN]; simp [<- uh HN], by rw [uh HSN, uh HTX]; simpa [bytsV] using hown2, z0p (uh HB2) hbs2 hown1 hgrow⟩, by simp [intOf]; omega⟩
  ·obtain rfl : k = l.length := by omega
   have hcv := byts_str (Byts.ofOwn hown (uh HN))
   obtain ⟨ah, ch, hvh⟩ := z02 hown
   subst hvh
   clear hown hb h3
   go_wp2
   go_ret
   exact ⟨rfl, uh HB⟩
set_option maxHeartbeats 1000000 in
theorem pAt_any (g : Nat) (B : PBx) (w : World) (h : PBoxAt w g B) (hl : B.sta.length <= 1000) (h9 : ∀ t, t ∈ B.sta -> t < 10) :
  Calls Tryz.prog 44 #[.pointer (some ⟨g, 0, none⟩)] w fun e w' => e = .returned (.string (z0i B.stateT)) /\ w' = w := by
 obtain ⟨vs, vr, vt, vl, vw, va, vq, hB, -, -, -, hI, -⟩ := h
 obtain ⟨ag, cg, rfl, h1, h2, h3⟩ := SlAt.open hI
 obtain ⟨⟨-, -, -, -, -, -, -, -, q8, -⟩, -, qg⟩ := box10 hB
 unfold PBx.stateT
 generalize B.sta = l at *
 unfold maxLen at h2
 have HT := zh h9
 clear hB hI h9
 go_enter Tryz.func44, Tryz.ntmps44
 go_wp2
 go_loopw [3, 11] (fun d i wr => ∃ k : Nat, k <= l.length /\ i = .int .i64 k /\ d = .string (z0i ((l.take k).map (48 + ·))) /\ wr = w) (fun _ i _ => l.length - (intOf i).toNat)
 case atStart => exact ⟨0, Nat.zero_le _, rfl, rfl, rfl⟩
 case round =>
  obtain ⟨k, hk, rfl, rfl, rfl⟩ := hrel
  have hsz := z3s ((l.take k).map (48 + ·))
  rw [List.length_map, List.length_take, Nat.min_eq_left hk] at hsz
  obtain ⟨p, hp⟩ : ∃ p, p = z0i ((l.take k).map (48 + ·)) := ⟨_, rfl⟩
  rw [<- hp] at hsz ⊢
  have HP := zh hp
  clear hp
  by_cases hlt : k < l.length
  ·obtain ⟨gl, off, hao, hg, cs, -, hC, hc⟩ := h3 k hlt
   subst hao
   unfold CInt at hC
   subst hC
   have hc0 := hc 0 (by omega)
   simp at hc0
   have h9 := uh HT _ (List.getElem_mem hlt)
   have HS := zh (show z0i ((l.take (k + 1)).map (48 + ·)) = p ++ ⟨#[UInt8.ofNat (48 + l[k])]⟩ by
    rw [uh HP, z4c _ _ _ hlt, z1v])
   clear hc h3
   generalize l[k] = t at *
   go_wp2_with (go_at_call 84; refine (Itoa_any t _ h9).mono ?_; rintro e w' ⟨rfl, rfl⟩)
   exact ⟨⟨k + 1, by omega, by go_num, by first | (rw [uh HS]; done) | (rw [uh HS]; simp; done), by trivial⟩, by simp [intOf]; omega⟩
  ·obtain rfl : k = l.length := by omega
   rw [List.take_length] at HP
   clear h3
   go_wp2
   go_ret
   exact ⟨by first | (rw [uh HP]; done) | (rw [<- uh HP]; rfl), rfl⟩
set_option maxHeartbeats 400000 in
theorem pQueue_any (g : Nat) (B : PBx) (w : World) (h : PBoxAt w g B) (hl : B.waits.length <= 1000) (h9 : ∀ t, t ∈ B.waits -> t < 9) :
  Calls Tryz.prog 45 #[.pointer (some ⟨g, 0, none⟩)] w fun e w' => e = .returned (.string (z21 B.waits)) /\ w' = w := by
 obtain ⟨vs, vr, vt, vl, vw, va, vq, hB, -, -, -, -, hI⟩ := h
 have H := zh (digits_any vq B.waits w hI h9 hl)
 obtain ⟨ag, cg, rfl, -⟩ := SlAt.open hI
 obtain ⟨⟨-, -, -, -, -, -, -, -, -, q9⟩, -, qg⟩ := box10 hB
 generalize B.waits = l at *
 clear hB hI h9
 go_enter Tryz.func45, Tryz.ntmps45
 go_wp2_with fail
 refine (uh H).mono ?_
 rintro e w1 ⟨rfl, rfl⟩
 go_wp2
 go_ret
 exact ⟨rfl, rfl⟩
def z0r (vc vo vp : Value) : Obj := .cells #[vc, vo, vp] 76
def PFr.repAs (f : PFr) (x c : Nat) : Bool := decide (x < f.rep.length) && f.rep.getD x 0 == c
set_option maxHeartbeats 1000000 in
theorem occ_any (v : Value) (f : PFr) (x : Nat) (w : World) (h : FrP w v f) :
  Calls Tryz.prog 120 #[v, .int .i64 x] w fun e w' => e = .returned (.bool (f.occ.getD x false)) /\ Below w.heap.size w w' := by
 obtain ⟨vc, vo, vp, rfl, h1, h2, h3⟩ := h
 obtain ⟨ac, cc, rfl, -⟩ := SlAt.open h1
 obtain ⟨ao, co, rfl, -, hm, o3⟩ := SlAt.open h2
 obtain ⟨ap, cp, rfl, -⟩ := SlAt.open h3
 unfold maxLen at hm
 have l0 : (0 : Int) <= x := by omega
 clear h1 h2 h3
 by_cases hx : x < f.occ.length
 ·obtain ⟨g, off, rfl, hg, cs, -, hC, hc⟩ := o3 x hx
  unfold CBool at hC
  subst hC
  have hc0 := hc 0 (by omega)
  simp at hc0
  have HZ := zh (z1f f.occ x false hx)
  have l1 : (x : Int) < f.occ.length := by omega
  rw [uh HZ]
  clear hc o3
  generalize f.occ[x] = z at *
  clear hx
  go_enter Tryz.func120, Tryz.ntmps120
  go_wp2
  go_ret
  exact ⟨rfl, z01 _ _⟩
 ·have HZ := zh (show f.occ.getD x false = false by rw [List.getD_eq_getElem?_getD, List.getElem?_eq_none (by omega)]; rfl)
  have l1 : ¬ (x : Int) < f.occ.length := by omega
  rw [uh HZ]
  clear o3 hx
  go_enter Tryz.func120, Tryz.ntmps120
  go_wp2
  go_ret
  exact ⟨rfl, z01 _ _⟩
set_option maxHeartbeats 1000000 in
theorem rep_any (v : Value) (f : PFr) (x c : Nat) (w : World) (h : FrP w v f) :
  Calls Tryz.prog 70 #[v, .int .i64 x, .int .u8 c] w fun e w' => e = .returned (.bool (f.repAs x c)) /\ Below w.heap.size w w' := by
 obtain ⟨vc, vo, vp, rfl, h1, h2, h3⟩ := h
 obtain ⟨ac, cc, rfl, -⟩ := SlAt.open h1
 obtain ⟨ao, co, rfl, -⟩ := SlAt.open h2
 obtain ⟨ap, cp, rfl, -, hm, o3⟩ := SlAt.open h3
 unfold maxLen at hm
 have l0 : (0 : Int) <= x := by omega
 clear h1 h2 h3
 obtain ⟨Z, hZ⟩ : ∃ Z, Z = f.repAs x c := ⟨_, rfl⟩
 rw [<- hZ]
 unfold PFr.repAs at hZ
 by_cases hx : x < f.rep.length
 ·obtain ⟨g, off, rfl, hg, cs, -, hC, hc⟩ := o3 x hx
  unfold CByte at hC
  subst hC
  have hc0 := hc 0 (by omega)
  simp at hc0
  rw [decide_eq_true hx, Bool.true_and, z1f f.rep x 0 hx] at hZ
  have l1 : (x : Int) < f.rep.length := by omega
  clear hc o3
  generalize f.rep[x] = z at *
  have HZ := zh (show ((z : Int) == (c : Int)) = Z by rw [hZ, Bool.eq_iff_iff]; simp; omega)
  clear hx hZ
  go_enter Tryz.func70, Tryz.ntmps70
  go_wp2
  go_ret
  exact ⟨z04 (by have := uh HZ; first | exact this | (rw [<- this]; done)), z01 _ _⟩
 ·rw [decide_eq_false hx, Bool.false_and] at hZ
  have HZ := zh hZ
  have l1 : ¬ (x : Int) < f.rep.length := by omega
  clear o3 hx hZ
  go_enter Tryz.func70, Tryz.ntmps70
  go_wp2
  go_ret
  exact ⟨z04 (uh HZ).symm, z01 _ _⟩
set_option maxHeartbeats 400000 in
theorem isLocked_any (g : Nat) (B : PBx) (s : Nat) (w : World) (h : PBoxAt w g B) (hr : B.rts.length <= 1000) (hf : ∀ x, x ∈ B.rts -> x.freed <= 1000) :
  Calls Tryz.prog 104 #[.pointer (some ⟨g, 0, none⟩), .int .i64 s] w fun e w' => e = .returned (.bool (B.lockedBy s).isSome) /\ Below w.heap.size w w' := by
 have H := zh (lockedBy_any g B s w h hr hf)
 clear h hf hr
 generalize B.lockedBy s = o at *
 go_enter Tryz.func104, Tryz.ntmps104
 go_wp2_with fail
 refine (uh H).mono ?_
 rintro e w1 ⟨rfl, hb⟩
 have HB := zh hb
 clear hb
 go_wp2
 go_ret
 exact ⟨rfl, uh HB⟩
def PRt.flankB (x : PRt) (s : Nat) : Bool := x.ph != 46 && has x.rt.flank s
def PBx.route (B : PBx) (r : Nat) : PRt := B.rts.getD r (PRt.new Rt0)
def PBx.flankB (B : PBx) (s r : Nat) : Bool := (B.route r).flankB s
def PBx.heldB (B : PBx) (s : Nat) : Bool := (List.range B.rts.length).any (B.flankB s) || (B.lockedBy s).isSome
theorem anyr_true {f : Nat -> Bool} {n k : Nat} (hk : k < n) (h : f k = true) : (List.range n).any f = true := by
 rw [List.any_eq_true]; exact ⟨k, List.mem_range.2 hk, h⟩
theorem anyr_false {f : Nat -> Bool} {n : Nat} (h : ∀ j, j < n -> f j = false) : (List.range n).any f = false := by
 rw [List.any_eq_false]; intro j hj; rw [h j (List.mem_range.1 hj)]; simp
set_option maxHeartbeats 2000000 in
theorem isHeld_any (g : Nat) (B : PBx) (s : Nat) (w : World) (h : PBoxAt w g B) (hr : B.rts.length <= 1000) (hf : ∀ x, x ∈ B.rts -> x.freed <= 1000) :
  Calls Tryz.prog 69 #[.pointer (some ⟨g, 0, none⟩), .int .i64 s] w fun e w' => e = .returned (.bool (B.heldB s)) /\ Below w.heap.size w w' := by
 have HLK := zh (fun (wz : World) (hz : Below w.heap.size w wz) => isLocked_any g B s wz (h.below hz) hr hf)
 obtain ⟨vs, vr, vt, vl, vw, va, vq, hB, -, hL, -⟩ := h
 obtain ⟨al, cl, rfl, -, hml, l3⟩ := SlAt.open hL
 obtain ⟨⟨-, -, -, -, -, -, q6, -⟩, -, qg⟩ := box10 hB
 have HK := zh (show ∀ k (h : k < B.rts.length), B.flankB s k = (B.rts[k].ph != 46 && has B.rts[k].rt.flank s) by
  intro k h
  unfold PBx.flankB PBx.route
  rw [z1f _ _ _ h]; rfl)
 obtain ⟨Z, hZ⟩ : ∃ Z, Z = B.heldB s := ⟨_, rfl⟩
 rw [<- hZ]
 unfold PBx.heldB at hZ
 generalize B.flankB s = f at *
 generalize (B.lockedBy s).isSome = o at *
 generalize B.rts = ls at *
 unfold maxLen at hml
 have HZ := zh hZ
 clear hL hB hZ hf
 have Q6 := zh q6
 go_enter Tryz.func69, Tryz.ntmps69
 go_wp2
 go_loopw [11] (fun i wr => ∃ k : Nat, k <= ls.length /\ i = .int .i64 k /\ (∀ j, j < k -> f j = false) /\ Below w.heap.size w wr) (fun i _ => ls.length - (intOf i).toNat)
 case atStart => exact ⟨0, Nat.zero_le _, rfl, fun j h => by omega, Below.refl _ _⟩
 case round =>
  obtain ⟨k, hk, rfl, hno, hb⟩ := hrel
  have HNO := zh hno
  have HB := zh hb
  have hbs := hb.size
  clear q6
  have q6 := uh Q6
  rw [<- hb.cell (p := ⟨g, 6, none⟩) qg] at q6
  clear hno
  have qgw : g < wr.heap.size := by omega
  by_cases hlt : k < ls.length
  ·obtain ⟨gl, ol, hal, hgl, cs, -, hC, hc⟩ := l3 k hlt
   subst hal
   obtain ⟨vp, vf, vm, rfl, -, hFl, -⟩ := hC
   have c2 := hc 2 (by omega)
   have c3 := hc 3 (by omega)
   rw [<- hb.cell (p := ⟨gl, _, none⟩) hgl] at c2 c3
   simp at c2 c3
   have hgw : gl < wr.heap.size := by omega
   have HIS := zh (isSet_at gl (ol + k * 9) ls[k].ph wr c3)
   have HNM := zh (z4o vf ls[k].rt.flank s wr (hFl.keep (Keeps.below hb)))
   obtain ⟨af, cf, rfl, -⟩ := SlAt.open hFl
   have HF := zh (uh HK k hlt)
   have e1 : (k : Int) < ls.length := by omega
   have e0 : (0 : Int) <= k := by omega
   clear hc hFl l3 hb
   have HNN := zh (show f k = false -> ∀ j, j < k + 1 -> f j = false by
    intro h j hj
    by_cases hj' : j < k
    ·exact uh HNO j hj'
    ·obtain rfl : j = k := by omega
     exact h)
   have HTR := zh (show f k = true -> Z = true by
    intro h; rw [uh HZ, anyr_true hlt h]; rfl)
   obtain ⟨b0, hb0⟩ : ∃ b, (ls[k].ph != 46) = b := ⟨_, rfl⟩
   rw [hb0] at HIS HF
   clear hb0
   go_wp2_with fail
   refine (uh HIS).mono ?_
   rintro e w1 ⟨rfl, hw1⟩
   subst hw1
   cases b0 with
   | false =>
    have HN2 := zh (uh HNN (by rw [uh HF]; rfl))
    go_wp2
    exact ⟨⟨k + 1, by omega, by go_num, uh HN2, uh HB⟩, by simp [intOf]; omega⟩
   | true =>
    rw [Bool.true_and] at HF
    go_wp2_with fail
    refine (uh HNM).mono ?_
    rintro e w2 ⟨rfl, hb2⟩
    have HB2 := zh ((uh HB).trans (hb2.mono hbs))
    clear hb2 HNM HIS
    obtain ⟨b1, hb1⟩ : ∃ b, has ls[k].rt.flank s = b := ⟨_, rfl⟩
    rw [hb1] at HF ⊢
    clear hb1
    cases b1 with
    | false =>
     have HN2 := zh (uh HNN (uh HF))
     go_wp2
     exact ⟨⟨k + 1, by omega, by go_num, uh HN2, uh HB2⟩, by simp [intOf]; omega⟩
    | true =>
     have HZ2 := zh (uh HTR (uh HF))
     go_wp2
     go_ret
     exact ⟨z04 (uh HZ2).symm, uh HB2⟩
  ·obtain rfl : k = ls.length := by omega
   have HZ2 := zh (show Z = o by rw [uh HZ, anyr_false (uh HNO)]; rfl)
   clear l3 hb
   go_wp2_with fail
   refine (uh HLK wr (uh HB)).mono ?_
   rintro e w1 ⟨rfl, hb1⟩
   have HB1 := zh ((uh HB).trans (hb1.mono hbs))
   clear hb1
   go_wp2
   go_ret
   exact ⟨z04 (uh HZ2).symm, uh HB1⟩
end Go.Proofs.YtkbpocecbcaiiabGreatDoor
