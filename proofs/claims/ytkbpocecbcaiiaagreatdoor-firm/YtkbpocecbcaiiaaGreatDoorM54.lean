import Derived.Test.YtkbpocecbcaiiaaGreatDoorM53
namespace Go.Proofs.YtkbpocecbcaiiaaGreatDoor
open Go.RowKit
set_option maxRecDepth 100000 in
set_option maxHeartbeats 4000000 in
theorem kcalled_any (g : Nat) (L : Lay) (x c : Nat) (t : ByteArray) (w : World) (h : KPl w g L) (hx : x < L.sw.length) (hr2 : L.rts.length <= 100) (ho : ∀ r, r < L.rts.length -> RtOK L (L.rt r)) (ht : t.size = L.rts.length) :
  Calls Tryz.prog 56 #[.pointer (some ⟨g, 0, none⟩), .int .i64 x, .int .u8 c, .string t] w fun e w' => e = .returned (.bool (z3x L t x c)) /\ w' = w := by
 obtain ⟨vh, vp, vf, va, vk, vw, vs, vj, e, -, -, a3, -, -, a6, -⟩ := h
 obtain ⟨⟨-, -, -, -, -, c5, -, -, c8, -⟩, hg⟩ := z1a e
 obtain ⟨af, cf, rfl, -⟩ := SlAt.open a3
 rw [List.length_map] at c5
 have HI := zh (fun (r : Nat) (hr : r < L.rts.length) => want_at a6 hr (ho r hr))
 obtain ⟨nr, hnr⟩ : ∃ n, n = L.rts.length := ⟨_, rfl⟩
 have HNR := zh hnr
 rw [<- hnr] at c5 ht hr2
 obtain ⟨ns, hns⟩ : ∃ n, n = L.sw.length := ⟨_, rfl⟩
 rw [<- hns] at hx HI
 obtain ⟨Z, hZ⟩ : ∃ Z, Z = z3x L t x c := ⟨_, rfl⟩
 rw [<- hZ]
 unfold z3x at hZ
 rw [<- hnr] at hZ
 have HZ := zh hZ
 have px : (x : Int) < ns := by omega
 clear e a3 a6 ho hnr hns hZ
 go_enter Tryz.func56, Tryz.ntmps56
 go_wp2
 go_loop [9] (fun i => ∃ k : Nat, k <= nr /\ i = .int .i64 k /\ ∀ r, r < k -> ¬ (pk t r = 119 /\ L.wantsF r x = c)) (fun i => nr - (intOf i).toNat)
 case atStart => exact ⟨0, Nat.zero_le _, rfl, fun j h => by omega⟩
 case round =>
  obtain ⟨k, hk, rfl, hko⟩ := hrel
  have HKO := zh hko
  clear hko
  by_cases hlt : k < nr
  ·have hk' : k < L.rts.length := by rw [<- uh HNR]; exact hlt
   obtain ⟨gw, ow, cw, gr, or_, cr, rfl, hgw, hrow⟩ := uh HI k hk'
   obtain ⟨xr, hgr, hc⟩ := hrow (by omega)
   have xc := hc x hx
   rw [<- uh HNR] at c8
   have HN := zh (show ¬ (pk t k = 119 /\ L.wantsF k x = c) -> ∀ r, r < k + 1 -> ¬ (pk t r = 119 /\ L.wantsF r x = c) from fun hn r hr => by
    by_cases e : r = k
    ·subst e; exact hn
    ·exact uh HKO r (by omega))
   have HY := zh (show pk t k = 119 /\ L.wantsF k x = c -> true = Z from fun hy => by
    rw [uh HZ]; symm
    rw [List.any_eq_true]
    exact ⟨k, List.mem_range.2 hlt, by simp [hy]⟩)
   generalize L.wantsF k x = u at *
   obtain ⟨z, hz⟩ : ∃ z, t[k].toNat = z := ⟨_, rfl⟩
   have hz' : pk t k = z := (z19 t k (by omega)).symm.trans hz
   rw [hz'] at HN HY
   have l1 : (k : Int) < nr := by omega
   have l2 : (k : Int) < t.size := by omega
   have l3 : (0 : Int) <= k := by omega
   have l4 : (0 : Int) <= x := by omega
   clear hrow hc hz' hk'
   by_cases h1 : z = 119
   ·by_cases h2 : u = c
    ·have HY2 := zh (uh HY ⟨h1, h2⟩)
     subst h1 h2
     clear HY HN
     go_wp2
     go_ret
     exact ⟨z04 (uh HY2), rfl⟩
    ·have hb : ((u : Int) == (c : Int)) = false := by simp; omega
     have HN2 := zh (uh HN (fun h => h2 h.2))
     subst h1
     clear HY HN
     go_wp2
     exact ⟨⟨k + 1, by omega, by go_num, uh HN2⟩, by simp [intOf]; omega⟩
   ·have hb : ((z : Int) == 119) = false := by simp; omega
    have HN2 := zh (uh HN (fun h => h1 h.1))
    clear HY HN
    go_wp2
    exact ⟨⟨k + 1, by omega, by go_num, uh HN2⟩, by simp [intOf]; omega⟩
  ·have l1 : ¬ (k : Int) < nr := by omega
   have HZ2 := zh (show false = Z by
    rw [uh HZ]; symm
    rw [List.any_eq_false]
    intro r hr e
    simp at e
    exact uh HKO r (by have := List.mem_range.1 hr; omega) e)
   go_wp2
   go_ret
   exact ⟨z04 (uh HZ2), rfl⟩
theorem tns_jny {L : Lay} {t : Nat} (ht : t < L.tns.length) : (L.tns.map (·.jny))[t]'(by simpa using ht) = (L.tn t).jny := by
 rw [List.getElem_map]
 unfold Lay.tn
 rw [z0f ht]
set_option maxRecDepth 100000 in
set_option maxHeartbeats 4000000 in
theorem kturned_yes (g : Nat) (L : Lay) (x c gh gt : Nat) (t0 t1 t2 t3 a0 a1 a2 a3 a4 : ByteArray) (w : World) (h : KPl w g L) (hh : w.heap[gh]? = some (heardO t0 t1 t2 t3)) (ha : w.heap[gt]? = some (toldO a0 a1 a2 a3 a4)) (hx : x < L.sw.length)
  (ho : ∀ r, r < L.rts.length -> RtOK L (L.rt r)) (hg3 : ∀ i, i < t3.size -> 49 <= pk t3 i /\ pk t3 i < 49 + L.tns.length) (s3 : a3.size = L.tns.length) (htn : L.tns.length <= 100) (hs : t3.size <= 1000) (hb3 : ∀ k, k < a3.size -> 48 <= pk a3 k /\ pk a3 k <= 48 + (L.tn k).jny.length)
  (hj : ∀ t, t < L.tns.length -> ∀ q, q ∈ (L.tn t).jny -> q < L.rts.length) (hy : ∃ i, i < t3.size /\ z2t L a3 t3 x c i) :
  Calls Tryz.prog 57 #[.pointer (some ⟨g, 0, none⟩), .int .i64 x, .int .u8 c, .pointer (some ⟨gh, 0, none⟩), .pointer (some ⟨gt, 0, none⟩)] w fun e w' => e = .returned (.bool true) /\ ∃ m, w' = w.drewN m := by
 obtain ⟨vh, vp, vf, va, vk, vw, vs, vj, e, -, -, -, -, -, a6, -, a8⟩ := h
 obtain ⟨⟨-, -, -, -, -, -, -, -, c8, -, c10⟩, hg⟩ := z1a e
 obtain ⟨⟨-, -, -, y3⟩, hgh⟩ := heard_cells hh
 obtain ⟨⟨-, -, -, z3, -⟩, -, hgt⟩ := z1w ha
 have HI := zh (fun (r : Nat) (hr : r < L.rts.length) => want_at a6 hr (ho r hr))
 have HJ := zh (fun (t : Nat) (ht : t < L.tns.length) => irow_at a8 t (by simpa using ht))
 have HG := zh hg3
 have HB := zh hb3
 have HJN := zh hj
 have HY := zh hy
 obtain ⟨ns, hns⟩ : ∃ n, n = L.sw.length := ⟨_, rfl⟩
 rw [<- hns] at hx HI
 have px : (x : Int) < ns := by omega
 have px0 : (0 : Int) <= x := by omega
 clear e a6 a8 ho hg3 hb3 hj hy hns hh ha
 go_enter Tryz.func57, Tryz.ntmps57
 go_wp2
 go_loopw [11] (fun i wr => ∃ k mm : Nat, k <= t3.size /\ i = .int .i64 k /\ (∀ j, j < k -> ¬ z2t L a3 t3 x c j) /\ wr = w.drewN mm) (fun i _ => t3.size - (intOf i).toNat)
 case atStart => exact ⟨0, 0, Nat.zero_le _, rfl, fun j h => by omega, rfl⟩
 case round =>
  obtain ⟨k, mm, hk, rfl, hko, hwr⟩ := hrel
  have HKO := zh hko
  have HWR := zh hwr
  clear hko
  have ny : wr.cell? ⟨gh, 3, none⟩ = some (.string t3) := by rw [hwr]; exact y3
  have nz : wr.cell? ⟨gt, 3, none⟩ = some (.string a3) := by rw [hwr]; exact z3
  have ng : g < wr.heap.size := by rw [hwr]; exact hg
  have ngh : gh < wr.heap.size := by rw [hwr]; exact hgh
  have ngt : gt < wr.heap.size := by rw [hwr]; exact hgt
  by_cases hlt : k < t3.size
  ·obtain ⟨b1, b2⟩ := uh HG k hlt
   have HN := zh (show ¬ z2t L a3 t3 x c k -> ∀ r, r < k + 1 -> ¬ z2t L a3 t3 x c r from fun hn r hr => by
    by_cases e : r = k
    ·subst e; exact hn
    ·exact uh HKO r (by omega))
   have hTA : z2t L a3 t3 x c k -> 48 < pk a3 (pk t3 k - 49) /\ L.wantsF ((L.tn (pk t3 k - 49)).jny.getD (pk a3 (pk t3 k - 49) - 49) 0) x = c := id
   obtain ⟨u, hu⟩ : ∃ u, t3[k].toNat = u := ⟨_, rfl⟩
   have hu' : pk t3 k = u := (z19 t3 k hlt).symm.trans hu
   rw [hu'] at b1 b2 hTA
   obtain ⟨t, ht⟩ : ∃ t, t = u - 49 := ⟨_, rfl⟩
   have htl : t < L.tns.length := by omega
   have eu : (u : Int) - 49 = t := by omega
   have hu256 : u < 256 := by rw [<- hu]; exact t3[k].toNat_lt
   have ei : IntKind.i64.wrap (u : Int) = u := Go.IntWalk.i64_in _ (by omega)
   rw [<- ht] at hTA
   obtain ⟨d1, d2⟩ := uh HB t (by omega)
   have hta : t < a3.size := by omega
   obtain ⟨a, haa⟩ : ∃ a, (a3[t]'hta).toNat = a := ⟨_, rfl⟩
   have ha' : pk a3 t = a := (z19 a3 t hta).symm.trans haa
   rw [ha'] at d1 d2 hTA
   have ha256 : a < 256 := by rw [<- haa]; exact (a3[t]'hta).toNat_lt
   have ea : IntKind.i64.wrap (a : Int) = a := Go.IntWalk.i64_in _ (by omega)
   obtain ⟨gj, oj, cj, ar, cr, ev, hgj, xr, hui⟩ := uh HJ t htl
   subst ev
   rw [tns_jny htl] at xr hui
   rw [List.length_map] at c10
   obtain ⟨nt, hnt⟩ : ∃ n, n = L.tns.length := ⟨_, rfl⟩
   rw [<- hnt] at c10 s3
   have n10 : wr.cell? ⟨g, 10, none⟩ = some (.slice (some ⟨gj, oj, none⟩) nt cj) := by rw [hwr]; exact c10
   have nxr : wr.cell? ⟨gj, oj + t, none⟩ = some (.slice ar (L.tn t).jny.length cr) := by rw [hwr]; exact xr
   have ngj : gj < wr.heap.size := by rw [hwr]; exact hgj
   have l1 : (k : Int) < t3.size := by omega
   have l2 : (t : Int) < a3.size := by omega
   have l3 : (t : Int) < nt := by omega
   have l4 : (0 : Int) <= t := by omega
   have l11 : t <= 100 := by omega
   have l5 : (0 : Int) <= k := by omega
   by_cases hn0 : a = 48
   ·have HN2 := zh (uh HN (fun h => by have := (hTA h).1; omega))
    obtain ⟨n, hn⟩ : ∃ n, n = a - 48 := ⟨_, rfl⟩
    have en : (a : Int) - 48 = n := by omega
    have l10 : ¬ 0 < n := by omega
    have l14 : decide (0 < n) = false := by simp; omega
    have l12 : n <= 256 := by omega
    clear hTA hu' ha' hwr HN ht hn hn0
    go_wp2
    go_quiet (fail)
    go_wp2
    exact ⟨⟨k + 1, mm + nq, by omega, by go_num, uh HN2, by rw [uh HWR]; exact z3t _ _ _⟩, by simp [intOf]; omega⟩
   ·obtain ⟨n, hn⟩ : ∃ n, n = a - 48 := ⟨_, rfl⟩
    have en : (a : Int) - 48 = n := by omega
    obtain ⟨n1, hn1⟩ : ∃ n1, n1 = a - 49 := ⟨_, rfl⟩
    have en1 : (n : Int) - 1 = n1 := by omega
    rw [<- hn1] at hTA
    obtain ⟨ar', cr', hv, hm, hrow⟩ := ints_at hui
    simp only [Value.slice.injEq] at hv
    obtain ⟨rfl, -, rfl⟩ := hv
    have hn1l : n1 < (L.tn t).jny.length := by omega
    obtain ⟨gq, oq, rfl, hgq, xq⟩ := hrow n1 hn1l
    have hq := uh HJN t htl _ (List.getElem_mem hn1l)
    rw [z0f hn1l] at hTA
    obtain ⟨q, hqe⟩ : ∃ q, q = (L.tn t).jny[n1] := ⟨_, rfl⟩
    rw [<- hqe] at hq xq hTA
    obtain ⟨gw, ow, cw, gr, or_, cr2, ev2, hgw, hrw⟩ := uh HI q hq
    subst ev2
    obtain ⟨xw, hgr, hc⟩ := hrw (by omega)
    have xc := hc x hx
    obtain ⟨nr, hnr⟩ : ∃ n, n = L.rts.length := ⟨_, rfl⟩
    rw [<- hnr] at c8 hq
    obtain ⟨nl, hnl⟩ : ∃ n, n = (L.tn t).jny.length := ⟨_, rfl⟩
    rw [<- hnl] at nxr hn1l
    have n8 : wr.cell? ⟨g, 8, none⟩ = some (.slice (some ⟨gw, ow, none⟩) nr cw) := by rw [hwr]; exact c8
    have nq' : wr.cell? ⟨gq, oq + n1, none⟩ = some (.int .i64 (q : Nat)) := by rw [hwr]; exact xq
    have nw : wr.cell? ⟨gw, ow + q, none⟩ = some (.slice (some ⟨gr, or_, none⟩) ns cr2) := by rw [hwr]; exact xw
    have nc : wr.cell? ⟨gr, or_ + x, none⟩ = some (.int .u8 (L.wantsF q x : Nat)) := by rw [hwr]; exact xc
    have ngq : gq < wr.heap.size := by rw [hwr]; exact hgq
    have ngw : gw < wr.heap.size := by rw [hwr]; exact hgw
    have ngr : gr < wr.heap.size := by rw [hwr]; exact hgr
    have l6 : (n1 : Int) < nl := by omega
    have l7 : (q : Int) < nr := by omega
    have l8 : (0 : Int) <= n1 := by omega
    have l9 : (0 : Int) <= q := by omega
    have l10 : 0 < n := by omega
    have l14 : decide (0 < n) = true := by simp; omega
    have l12 : n <= 256 := by omega
    have l13 : n1 <= 256 := by omega
    have HN2 := zh (show L.wantsF q x ≠ c -> ∀ r, r < k + 1 -> ¬ z2t L a3 t3 x c r from fun hne => uh HN (fun h => hne (hTA h).2))
    generalize L.wantsF q x = v at *
    clear hTA hu' ha' hwr HN ht hrow hui hrw hc xw xc xq hqe hnr hnl hnt hn hn1 xr
    by_cases hvc : v = c
    ·subst hvc
     go_wp2
     go_quiet (fail)
     go_wp2
     go_ret
     exact ⟨rfl, _, by rw [uh HWR]; exact z3t _ _ _⟩
    ·have hb : ((v : Int) == (c : Int)) = false := by simp; omega
     have HN3 := zh (uh HN2 hvc)
     clear HN2
     go_wp2
     go_quiet (fail)
     go_wp2
     exact ⟨⟨k + 1, mm + nq, by omega, by go_num, uh HN3, by rw [uh HWR]; exact z3t _ _ _⟩, by simp [intOf]; omega⟩
  ·exfalso
   obtain ⟨i, h1, h2⟩ := uh HY
   exact uh HKO i (by omega) h2
set_option maxRecDepth 100000 in
set_option maxHeartbeats 16000000 in
theorem kfirm_true (g : Nat) (L : Lay) (k : Nat) (s : ByteArray) (gh gw gt : Nat) (t0 t1 t2 t3 b0 b1 b2 b3 b4 a0 a1 a2 a3 a4 : ByteArray) (w : World) (h : KPl w g L) (hh : w.heap[gh]? = some (heardO t0 t1 t2 t3)) (hb : w.heap[gw]? = some (toldO b0 b1 b2 b3 b4)) (ha : w.heap[gt]? = some (toldO a0 a1 a2 a3 a4))
  (hk : k < (z0d 0 L.sw).length) (ho : ∀ r, r < L.rts.length -> RtOK L (L.rt r)) (hA : AskOK L a0 a1 a2 a3 a4) (hH : HearOK L s t0 t1 t2 t3) (hB : b2.size = cntT L.sw) (hge : L.bgn <= s.size) (hle : s.size <= 64)
  (hj : ∀ t, t < L.tns.length -> ∀ q, q ∈ (L.tn t).jny -> q < L.rts.length)
  (f1 : pk a2 k = 43 \/ pk a2 k = 45 \/ pk a2 k = 120)
  (f2 : pk t1 k = if pk a2 k ≠ 120 /\ z3x L a1 (z0d 0 L.sw)[k] (pk a2 k) = true /\ pk s (z0d 0 L.sw)[k] = 48 /\ pk s (L.sw.length + k) ≠ pk a2 k then pk a2 k else 46)
  (f3 : pk a2 k = pk b2 k \/ pk a2 k = 120 \/ pk b2 k = 120 \/ (pk s (z0d 0 L.sw)[k] = 48 /\ ∃ i, i < t3.size /\ z2t L a3 t3 (z0d 0 L.sw)[k] (pk a2 k) i)) :
  Calls Tryz.prog 22 #[.pointer (some ⟨g, 0, none⟩), .int .i64 k, .string s, .pointer (some ⟨gh, 0, none⟩), .pointer (some ⟨gw, 0, none⟩), .pointer (some ⟨gt, 0, none⟩)] w fun e w' => e = .returned (.bool true) /\ ∃ m, w' = w.drewN m := by
 have hbg : L.bgn = L.sw.length + cntT L.sw := rfl
 have hcn : (z0d 0 L.sw).length = cntT L.sw := z4r _ _
 obtain ⟨p1, -, -⟩ := rep_pts (L := L) (s := s) hk
 have HR := zh (kreport_any g L s k w h (by omega) (by omega))
 have HC := zh (kcalled_any g L (z0d 0 L.sw)[k] (pk a2 k) a1 w h p1 hA.rt ho hA.s1)
 have HT := zh (kturned_yes g L (z0d 0 L.sw)[k] (pk a2 k) gh gt t0 t1 t2 t3 a0 a1 a2 a3 a4 w h hh ha p1 ho hH.b3 hA.s3 hA.tn hH.s3 hA.b3 hj)
 obtain ⟨vh, vp, vf, va, vk, vw, vs, vj, e, -, a2', -⟩ := h
 obtain ⟨⟨-, -, -, -, c4, -⟩, hg⟩ := z1a e
 obtain ⟨ap, cp, rfl, -, hpt⟩ := ints_at a2'
 obtain ⟨gp, op, rfl, hgp, xk⟩ := hpt k hk
 obtain ⟨⟨-, y1, -⟩, hgh⟩ := heard_cells hh
 obtain ⟨⟨-, -, v2, -⟩, -, hgw⟩ := z1w hb
 obtain ⟨⟨-, z1, z2, -⟩, -, hgt⟩ := z1w ha
 have s1 := hH.s1
 have s2 := hA.s2
 obtain ⟨x, hx⟩ : ∃ x, x = (z0d 0 L.sw)[k] := ⟨_, rfl⟩
 rw [<- hx] at xk p1 HC HT f2 f3
 have k1 : k < t1.size := by omega
 have k2 : k < a2.size := by omega
 have k3 : k < b2.size := by omega
 have k4 : x < s.size := by omega
 obtain ⟨c, hc⟩ : ∃ c, (a2[k]'k2).toNat = c := ⟨_, rfl⟩
 obtain ⟨mv, hmv⟩ : ∃ c, (t1[k]'k1).toNat = c := ⟨_, rfl⟩
 obtain ⟨wc, hwc⟩ : ∃ c, (b2[k]'k3).toNat = c := ⟨_, rfl⟩
 obtain ⟨o, hoo⟩ : ∃ c, (s[x]'k4).toNat = c := ⟨_, rfl⟩
 rw [<- z19 a2 k k2, hc] at f1 f2 f3 HC HT
 rw [<- z19 b2 k k3, hwc] at f3
 rw [<- z19 t1 k k1, hmv] at f2
 rw [<- z19 s x k4, hoo] at f2 f3
 obtain ⟨cb, hcb⟩ : ∃ b, b = z3x L a1 x c := ⟨_, rfl⟩
 rw [<- hcb] at f2 HC
 generalize pk s (L.sw.length + k) = z at *
 obtain ⟨np, hnp⟩ : ∃ n, n = (z0d 0 L.sw).length := ⟨_, rfl⟩
 rw [<- hnp] at c4 hk
 have l1 : (k : Int) < np := by omega
 have l2 : (k : Int) < t1.size := by omega
 have l3 : (k : Int) < a2.size := by omega
 have l4 : (k : Int) < b2.size := by omega
 have l5 : (x : Int) < s.size := by omega
 have l6 : (0 : Int) <= k := by omega
 have l7 : (0 : Int) <= x := by omega
 have hk64 : k <= 64 := by omega
 clear e a2' hpt hx hcb hbg hcn hA hH hB hge hj hh hb ha ho hnp s1 s2 p1
 go_enter Tryz.func22, Tryz.ntmps22
 rcases f1 with rfl | rfl | rfl
 ·have q120 : (43 : Nat) ≠ 120 := by decide
  rcases Decidable.em (43 = wc) with e1 | e1
  ·subst e1
   cases cb with
   | false =>
    obtain rfl : mv = 46 := by rw [f2]; simp
    clear f2 f3 q120 HT
    go_wp2_with fail
    refine (uh HR).mono ?_
    rintro e w1 ⟨rfl, rfl⟩
    go_wp2_with fail
    refine (uh HC).mono ?_
    rintro e w2 ⟨rfl, rfl⟩
    go_wp2
    go_ret
    exact ⟨rfl, 0, rfl⟩
   | true =>
    by_cases ho : o = 48
    ·subst ho
     by_cases hz : z = 43
     ·obtain rfl : mv = 46 := by rw [f2]; simp [hz]
      subst hz
      clear f2 f3 q120 HT
      go_wp2_with fail
      refine (uh HR).mono ?_
      rintro e w1 ⟨rfl, rfl⟩
      go_wp2_with fail
      refine (uh HC).mono ?_
      rintro e w2 ⟨rfl, rfl⟩
      go_wp2
      go_ret
      exact ⟨rfl, 0, rfl⟩
     ·obtain rfl : mv = 43 := by rw [f2]; simp [hz]
      have zb : ((z : Int) == 43) = false := by simp; omega
      clear f2 f3 q120 HT
      go_wp2_with fail
      refine (uh HR).mono ?_
      rintro e w1 ⟨rfl, rfl⟩
      go_wp2_with fail
      refine (uh HC).mono ?_
      rintro e w2 ⟨rfl, rfl⟩
      go_wp2
      go_ret
      exact ⟨rfl, 0, rfl⟩
    ·obtain rfl : mv = 46 := by rw [f2]; simp [ho]
     have ob : ((o : Int) == 48) = false := by simp; omega
     clear f2 f3 q120 HT
     go_wp2_with fail
     refine (uh HR).mono ?_
     rintro e w1 ⟨rfl, rfl⟩
     go_wp2_with fail
     refine (uh HC).mono ?_
     rintro e w2 ⟨rfl, rfl⟩
     go_wp2
     go_ret
     exact ⟨rfl, 0, rfl⟩
  by_cases e2 : wc = 120
  ·subst e2
   cases cb with
   | false =>
    obtain rfl : mv = 46 := by rw [f2]; simp
    clear f2 f3 q120 HT
    go_wp2_with fail
    refine (uh HR).mono ?_
    rintro e w1 ⟨rfl, rfl⟩
    go_wp2_with fail
    refine (uh HC).mono ?_
    rintro e w2 ⟨rfl, rfl⟩
    go_wp2
    go_ret
    exact ⟨rfl, 0, rfl⟩
   | true =>
    by_cases ho : o = 48
    ·subst ho
     by_cases hz : z = 43
     ·obtain rfl : mv = 46 := by rw [f2]; simp [hz]
      subst hz
      clear f2 f3 q120 HT
      go_wp2_with fail
      refine (uh HR).mono ?_
      rintro e w1 ⟨rfl, rfl⟩
      go_wp2_with fail
      refine (uh HC).mono ?_
      rintro e w2 ⟨rfl, rfl⟩
      go_wp2
      go_ret
      exact ⟨rfl, 0, rfl⟩
     ·obtain rfl : mv = 43 := by rw [f2]; simp [hz]
      have zb : ((z : Int) == 43) = false := by simp; omega
      clear f2 f3 q120 HT
      go_wp2_with fail
      refine (uh HR).mono ?_
      rintro e w1 ⟨rfl, rfl⟩
      go_wp2_with fail
      refine (uh HC).mono ?_
      rintro e w2 ⟨rfl, rfl⟩
      go_wp2
      go_ret
      exact ⟨rfl, 0, rfl⟩
    ·obtain rfl : mv = 46 := by rw [f2]; simp [ho]
     have ob : ((o : Int) == 48) = false := by simp; omega
     clear f2 f3 q120 HT
     go_wp2_with fail
     refine (uh HR).mono ?_
     rintro e w1 ⟨rfl, rfl⟩
     go_wp2_with fail
     refine (uh HC).mono ?_
     rintro e w2 ⟨rfl, rfl⟩
     go_wp2
     go_ret
     exact ⟨rfl, 0, rfl⟩
  have wb1 : ((43 : Int) == (wc : Int)) = false := by simp; omega
  have wb2 : ((wc : Int) == 120) = false := by simp; omega
  obtain ⟨e3, hti⟩ : o = 48 /\ ∃ i, i < t3.size /\ z2t L a3 t3 x 43 i := by
   rcases f3 with h | h | h | h
   ·exact absurd h e1
   ·omega
   ·exact absurd h e2
   ·exact h
  subst e3
  have HT2 := zh (uh HT hti)
  clear hti
  cases cb with
  | false =>
   obtain rfl : mv = 46 := by rw [f2]; simp
   clear f2 f3 q120 HT
   go_wp2_with fail
   refine (uh HR).mono ?_
   rintro e w1 ⟨rfl, rfl⟩
   go_wp2_with fail
   refine (uh HC).mono ?_
   rintro e w2 ⟨rfl, rfl⟩
   go_wp2_with fail
   refine (uh HT2).mono ?_
   rintro e w3 ⟨rfl, m, hw3⟩
   have HW3 := zh hw3
   clear hw3
   go_wp2
   go_ret
   exact ⟨rfl, m, uh HW3⟩
  | true =>
   by_cases hz : z = 43
   ·obtain rfl : mv = 46 := by rw [f2]; simp [hz]
    subst hz
    clear f2 f3 q120 HT
    go_wp2_with fail
    refine (uh HR).mono ?_
    rintro e w1 ⟨rfl, rfl⟩
    go_wp2_with fail
    refine (uh HC).mono ?_
    rintro e w2 ⟨rfl, rfl⟩
    go_wp2_with fail
    refine (uh HT2).mono ?_
    rintro e w3 ⟨rfl, m, hw3⟩
    have HW3 := zh hw3
    clear hw3
    go_wp2
    go_ret
    exact ⟨rfl, m, uh HW3⟩
   ·obtain rfl : mv = 43 := by rw [f2]; simp [hz]
    have zb : ((z : Int) == 43) = false := by simp; omega
    clear f2 f3 q120 HT
    go_wp2_with fail
    refine (uh HR).mono ?_
    rintro e w1 ⟨rfl, rfl⟩
    go_wp2_with fail
    refine (uh HC).mono ?_
    rintro e w2 ⟨rfl, rfl⟩
    go_wp2_with fail
    refine (uh HT2).mono ?_
    rintro e w3 ⟨rfl, m, hw3⟩
    have HW3 := zh hw3
    clear hw3
    go_wp2
    go_ret
    exact ⟨rfl, m, uh HW3⟩
 ·have q120 : (45 : Nat) ≠ 120 := by decide
  rcases Decidable.em (45 = wc) with e1 | e1
  ·subst e1
   cases cb with
   | false =>
    obtain rfl : mv = 46 := by rw [f2]; simp
    clear f2 f3 q120 HT
    go_wp2_with fail
    refine (uh HR).mono ?_
    rintro e w1 ⟨rfl, rfl⟩
    go_wp2_with fail
    refine (uh HC).mono ?_
    rintro e w2 ⟨rfl, rfl⟩
    go_wp2
    go_ret
    exact ⟨rfl, 0, rfl⟩
   | true =>
    by_cases ho : o = 48
    ·subst ho
     by_cases hz : z = 45
     ·obtain rfl : mv = 46 := by rw [f2]; simp [hz]
      subst hz
      clear f2 f3 q120 HT
      go_wp2_with fail
      refine (uh HR).mono ?_
      rintro e w1 ⟨rfl, rfl⟩
      go_wp2_with fail
      refine (uh HC).mono ?_
      rintro e w2 ⟨rfl, rfl⟩
      go_wp2
      go_ret
      exact ⟨rfl, 0, rfl⟩
     ·obtain rfl : mv = 45 := by rw [f2]; simp [hz]
      have zb : ((z : Int) == 45) = false := by simp; omega
      clear f2 f3 q120 HT
      go_wp2_with fail
      refine (uh HR).mono ?_
      rintro e w1 ⟨rfl, rfl⟩
      go_wp2_with fail
      refine (uh HC).mono ?_
      rintro e w2 ⟨rfl, rfl⟩
      go_wp2
      go_ret
      exact ⟨rfl, 0, rfl⟩
    ·obtain rfl : mv = 46 := by rw [f2]; simp [ho]
     have ob : ((o : Int) == 48) = false := by simp; omega
     clear f2 f3 q120 HT
     go_wp2_with fail
     refine (uh HR).mono ?_
     rintro e w1 ⟨rfl, rfl⟩
     go_wp2_with fail
     refine (uh HC).mono ?_
     rintro e w2 ⟨rfl, rfl⟩
     go_wp2
     go_ret
     exact ⟨rfl, 0, rfl⟩
  by_cases e2 : wc = 120
  ·subst e2
   cases cb with
   | false =>
    obtain rfl : mv = 46 := by rw [f2]; simp
    clear f2 f3 q120 HT
    go_wp2_with fail
    refine (uh HR).mono ?_
    rintro e w1 ⟨rfl, rfl⟩
    go_wp2_with fail
    refine (uh HC).mono ?_
    rintro e w2 ⟨rfl, rfl⟩
    go_wp2
    go_ret
    exact ⟨rfl, 0, rfl⟩
   | true =>
    by_cases ho : o = 48
    ·subst ho
     by_cases hz : z = 45
     ·obtain rfl : mv = 46 := by rw [f2]; simp [hz]
      subst hz
      clear f2 f3 q120 HT
      go_wp2_with fail
      refine (uh HR).mono ?_
      rintro e w1 ⟨rfl, rfl⟩
      go_wp2_with fail
      refine (uh HC).mono ?_
      rintro e w2 ⟨rfl, rfl⟩
      go_wp2
      go_ret
      exact ⟨rfl, 0, rfl⟩
     ·obtain rfl : mv = 45 := by rw [f2]; simp [hz]
      have zb : ((z : Int) == 45) = false := by simp; omega
      clear f2 f3 q120 HT
      go_wp2_with fail
      refine (uh HR).mono ?_
      rintro e w1 ⟨rfl, rfl⟩
      go_wp2_with fail
      refine (uh HC).mono ?_
      rintro e w2 ⟨rfl, rfl⟩
      go_wp2
      go_ret
      exact ⟨rfl, 0, rfl⟩
    ·obtain rfl : mv = 46 := by rw [f2]; simp [ho]
     have ob : ((o : Int) == 48) = false := by simp; omega
     clear f2 f3 q120 HT
     go_wp2_with fail
     refine (uh HR).mono ?_
     rintro e w1 ⟨rfl, rfl⟩
     go_wp2_with fail
     refine (uh HC).mono ?_
     rintro e w2 ⟨rfl, rfl⟩
     go_wp2
     go_ret
     exact ⟨rfl, 0, rfl⟩
  have wb1 : ((45 : Int) == (wc : Int)) = false := by simp; omega
  have wb2 : ((wc : Int) == 120) = false := by simp; omega
  obtain ⟨e3, hti⟩ : o = 48 /\ ∃ i, i < t3.size /\ z2t L a3 t3 x 45 i := by
   rcases f3 with h | h | h | h
   ·exact absurd h e1
   ·omega
   ·exact absurd h e2
   ·exact h
  subst e3
  have HT2 := zh (uh HT hti)
  clear hti
  cases cb with
  | false =>
   obtain rfl : mv = 46 := by rw [f2]; simp
   clear f2 f3 q120 HT
   go_wp2_with fail
   refine (uh HR).mono ?_
   rintro e w1 ⟨rfl, rfl⟩
   go_wp2_with fail
   refine (uh HC).mono ?_
   rintro e w2 ⟨rfl, rfl⟩
   go_wp2_with fail
   refine (uh HT2).mono ?_
   rintro e w3 ⟨rfl, m, hw3⟩
   have HW3 := zh hw3
   clear hw3
   go_wp2
   go_ret
   exact ⟨rfl, m, uh HW3⟩
  | true =>
   by_cases hz : z = 45
   ·obtain rfl : mv = 46 := by rw [f2]; simp [hz]
    subst hz
    clear f2 f3 q120 HT
    go_wp2_with fail
    refine (uh HR).mono ?_
    rintro e w1 ⟨rfl, rfl⟩
    go_wp2_with fail
    refine (uh HC).mono ?_
    rintro e w2 ⟨rfl, rfl⟩
    go_wp2_with fail
    refine (uh HT2).mono ?_
    rintro e w3 ⟨rfl, m, hw3⟩
    have HW3 := zh hw3
    clear hw3
    go_wp2
    go_ret
    exact ⟨rfl, m, uh HW3⟩
   ·obtain rfl : mv = 45 := by rw [f2]; simp [hz]
    have zb : ((z : Int) == 45) = false := by simp; omega
    clear f2 f3 q120 HT
    go_wp2_with fail
    refine (uh HR).mono ?_
    rintro e w1 ⟨rfl, rfl⟩
    go_wp2_with fail
    refine (uh HC).mono ?_
    rintro e w2 ⟨rfl, rfl⟩
    go_wp2_with fail
    refine (uh HT2).mono ?_
    rintro e w3 ⟨rfl, m, hw3⟩
    have HW3 := zh hw3
    clear hw3
    go_wp2
    go_ret
    exact ⟨rfl, m, uh HW3⟩
 ·obtain rfl : mv = 46 := by rw [f2]; simp
  clear f2 f3 HT
  by_cases e2 : wc = 120
  ·subst e2
   go_wp2_with fail
   refine (uh HR).mono ?_
   rintro e w1 ⟨rfl, rfl⟩
   go_wp2_with fail
   refine (uh HC).mono ?_
   rintro e w2 ⟨rfl, rfl⟩
   go_wp2
   go_ret
   exact ⟨rfl, 0, rfl⟩
  ·have wb1 : ((120 : Int) == (wc : Int)) = false := by simp; omega
   go_wp2_with fail
   refine (uh HR).mono ?_
   rintro e w1 ⟨rfl, rfl⟩
   go_wp2_with fail
   refine (uh HC).mono ?_
   rintro e w2 ⟨rfl, rfl⟩
   go_wp2
   go_ret
   exact ⟨rfl, 0, rfl⟩
theorem firm_run {n : Nat} {w0 w : World} {D R : Nat -> Prop} {gb gp : Nat} {L : Lay} {C : RBx} (h : KRun n w0 w D R gb gp L C) (hJ : KJ C) (hT : WtOK C) {s : ByteArray} (hf : C.L.frameB s = true) {k : Nat} (hk : k < (z0d 0 L.sw).length) (wz : World) (gh gw gt : Nat) (hkp : KPl wz gp L)
  (hh : wz.heap[gh]? = some (heardO (laS C s) (moS C s) (anS C s) (grS C s))) (hb : wz.heap[gw]? = some (toldO (lkS C) (phS C) (swS C) (atS C) (quS C))) (ha : wz.heap[gt]? = some (toldO (lkS (C.cyc s)) (phS (C.cyc s)) (swS (C.cyc s)) (atS (C.cyc s)) (quS (C.cyc s)))) :
  Calls Tryz.prog 22 #[.pointer (some ⟨gp, 0, none⟩), .int .i64 k, .string s, .pointer (some ⟨gh, 0, none⟩), .pointer (some ⟨gw, 0, none⟩), .pointer (some ⟨gt, 0, none⟩)] wz fun e w' => e = .returned (.bool true) /\ ∃ m, w' = wz.drewN m := by
 obtain ⟨S, e4⟩ := h.stg hf
 have hJ4 := h.kj hJ s
 have hT4 := h.wt4 hT s
 have hHO : HearOK C.L s (laS C s) (moS C s) (anS C s) (grS C s) := by
  obtain ⟨B, -, hs, hi⟩ := h.box
  exact hearOK hs hi (by rw [h.eL]; exact h.sg) h.wt s hf
 have hA0 := h.box.inv.askOK
 have eL := h.eL
 subst eL
 rw [e4] at hJ4 hT4 ha
 have hA := S.i4.askOK
 rw [S.l4] at hA
 have hg := (z4f C.L s).1 hf
 obtain ⟨f1, f2, f3⟩ := firm_facts S h.sg h.wt hT4 hJ4 hf hk
 have hro : ∀ r, r < C.L.rts.length -> RtOK C.L (C.L.rt r) := fun r hr => h.box.inv.rt hr
 refine kfirm_true gp C.L k s gh gw gt _ _ _ _ _ _ _ _ _ _ _ _ _ _ wz hkp hh hb ha hk hro hA hHO hA0.s2 hg.ge hg.le (fun t ht q hq => ?_) f1 f2 f3
 refine h.box.inv.lay.good.jnys (C.L.tn t) ?_ q hq
 unfold Lay.tn
 rw [z0f ht]
 exact List.getElem_mem ht
def KFir (n : Nat) (w wr : World) (R : Nat -> Prop) (gb gp gw : Nat) (L : Lay) : Prop := ∃ C D, KRun n w wr D R gb gp L C /\ KJ C /\ WtOK C /\ wr.heap[gw]? = some (toldO (lkS C) (phS C) (swS C) (atS C) (quS C)) /\ ¬ D gw
set_option maxRecDepth 100000 in
set_option maxHeartbeats 8000000 in
theorem Firm_any (s : ByteArray) (ao : Option Addr) (len cap : Nat) (zs : List ByteArray) (w : World) (hF : FrsOK w ao len zs) :
  Calls Tryz.prog 11 #[.string s, .slice ao len cap] w fun e w' => e = .returned (.bool true) /\ Below w.heap.size w w' := by
 have H1 := zh (kopened_any s w)
 obtain ⟨⟨hlm, hF⟩, hsz⟩ := hF
 unfold maxLen at hlm
 have HFR := zh hF
 have HSZ := zh hsz
 clear hF hsz
 go_enter Tryz.func11, Tryz.ntmps11
 go_wp2_with fail
 refine (uh H1).mono ?_
 rintro e w1 hOp
 rcases hOp with ⟨-, rfl, hb1⟩ | ⟨h0, gb, gp, D, R, rfl, hK⟩
 ·have HB1 := zh hb1
  clear hb1
  go_wp2
  go_ret
  exact ⟨rfl, uh HB1⟩
 ·have HA0 := zh hK.ask
  have HK0 := zh hK
  clear hK H1 h0
  go_wp2_with fail
  refine (uh HA0).mono ?_
  rintro e w0 ⟨g0, rfl, hg0, ht0, hb0⟩
  have HM0 := zh (show KFir w.heap.size w w0 R gb gp g0 (layOf s.data.toList) from ⟨_, D, (uh HK0).below hb0 (Nat.le_refl _), KJ.init _, WtOK.init _, ht0, fun hd => by have := (uh HK0).box.lt g0 hd; omega⟩)
  generalize layOf s.data.toList = L at *
  clear HA0 HK0 ht0 hb0 hg0
  go_wp2
  go_loopw [8, 10] (fun v i wr => ∃ m gw : Nat, v = .pointer (some ⟨gw, 0, none⟩) /\ i = .int .i64 m /\ m <= len /\ KFir w.heap.size w wr R gb gp gw L) (fun _ i _ => len - (intOf i).toNat)
  case atStart => exact ⟨0, g0, rfl, rfl, Nat.zero_le _, uh HM0⟩
  case round =>
   obtain ⟨m, gw, rfl, rfl, hm, hM⟩ := hrel
   by_cases hlt : m < len
   ·obtain ⟨C, D, hK, hJ, hT, hto0, hnd⟩ := hM
    rcases uh HFR with h | ⟨g, off, rfl, hc⟩
    ·omega
    have hcm0 := hc m hlt
    have hbk : g < w.heap.size := by
     rcases Nat.lt_or_ge g w.heap.size with h | h
     ·exact h
     ·unfold World.cell? at hcm0
      simp [Array.getElem?_eq_none h] at hcm0
    have hszm := uh HSZ m
    generalize zs.getD m ByteArray.empty = fr at *
    have hcm : ∀ wz, Below w.heap.size w wz -> wz.cell? ⟨g, off + m, none⟩ = some (.string fr) := fun wz hz => (hz.cell (p := ⟨g, off + m, none⟩) hbk).trans hcm0
    have hgz : ∀ wz, Below w.heap.size w wz -> g < wz.heap.size := fun wz hz => by have := hz.size; omega
    have HCM := zh hcm
    have HGZ := zh hgz
    have c1 := hcm wr hK.be
    have g1 := hgz wr hK.be
    have l0 : (0 : Int) <= m := by omega
    have l1 : (m : Int) < len := by omega
    have HC := zh (hK.cyc (Nat.le_refl _) fr)
    have HK := zh hK
    have HJ := zh hJ
    have HT := zh hT
    have HJ2 := zh (hK.kj hJ fr)
    have HT2 := zh (hK.wt4 hT fr)
    have HTO0 := zh hto0
    have HND := zh hnd
    clear hc hcm0 hcm hgz hK hJ hT hto0 hnd HM0
    go_wp2_with fail
    refine (uh HC).mono ?_
    rintro e w2 ⟨rfl, hK2, ho2⟩
    have HK2 := zh hK2
    have HTO2 := zh ((ho2.block gw (z0e (uh HTO0)) (uh HND)).trans (uh HTO0))
    have c2 := uh HCM w2 hK2.be
    have g2 := uh HGZ w2 hK2.be
    have HH := zh (khear_any (w := w2) (uh HK) hK2.plan.at fr hszm)
    clear hK2 ho2 c1 g1 HC
    go_wp2_with fail
    refine (uh HH).mono ?_
    rintro e w3 hH
    rcases hH with ⟨hf, gh, rfl, hgh, hho, hb3⟩ | ⟨hf, rfl, hb3⟩
    ·have HK3 := zh ((uh HK2).below hb3 (Nat.le_refl _))
     have HA := zh ((uh HK3).ask)
     have HHO := zh hho
     have HF := zh hf
     have HTO3 := zh ((hb3.block gw (z0e (uh HTO2))).trans (uh HTO2))
     have hz3 := hb3.size
     clear hho hb3 c2 g2 HH hf
     go_wp2_with fail
     refine (uh HA).mono ?_
     rintro e w4 ⟨gt, rfl, hgt, hto, hb4⟩
     have HK4 := zh ((uh HK3).below hb4 (Nat.le_refl _))
     have HHO4 := zh ((hb4.block gh (z0e (uh HHO))).trans (uh HHO))
     have HTO4 := zh ((hb4.block gw (z0e (uh HTO3))).trans (uh HTO3))
     have HTO := zh hto
     have HFN := zh (show ¬ _ from fun hd => by have := (uh HK2).box.lt gt hd; omega)
     obtain ⟨vh, vp, vf, va, vk, vw, vs, vj, ek, -, x2, -⟩ := (uh HK4).plan.at
     have HKO := zh ek
     obtain ⟨af, cf, rfl, -⟩ := SlAt.open x2
     obtain ⟨np, hnp⟩ : ∃ n, n = (z0d 0 L.sw).length := ⟨_, rfl⟩
     have HNP := zh hnp
     have hpb : np <= 100 := by
      have h1 := (uh HK2).box.inv.lay.sw
      rw [(uh HK2).eL] at h1
      have h2 := z4r L.sw 0
      have h3 : cntT L.sw <= L.sw.length := by unfold cntT; exact List.length_filter_le _ _
      omega
     rw [<- hnp] at HKO
     clear hto hb4 ek x2 HA hnp hz3
     go_wp2
     go_loopw [16] (fun i wq => ∃ r : Nat, i = .int .i64 r /\ r <= np /\ Below w4.heap.size w4 wq) (fun i _ => np - (intOf i).toNat)
     case atStart => exact ⟨0, rfl, Nat.zero_le _, Below.refl _ _⟩
     case round =>
      obtain ⟨r, rfl, hr, hbq⟩ := hrel
      have HBQ := zh hbq
      have hKq := (uh HK4).below hbq (Nat.le_refl _)
      have c3 := uh HCM wr hKq.be
      have g3 := uh HGZ wr hKq.be
      obtain ⟨⟨-, -, -, -, c4, -⟩, hgg⟩ := z1a ((hbq.block gp (z0e (uh HKO))).trans (uh HKO))
      by_cases hrt : r < np
      ·have HFI := zh (firm_run (uh HK) (uh HJ) (uh HT) (uh HF) (k := r) (by rw [<- uh HNP]; exact hrt) wr gh gw gt hKq.plan.at ((hbq.block gh (z0e (uh HHO4))).trans (uh HHO4)) ((hbq.block gw (z0e (uh HTO4))).trans (uh HTO4)) ((hbq.block gt (z0e (uh HTO))).trans (uh HTO)))
       have l2 : (r : Int) < np := by omega
       clear hbq hKq
       go_wp2_with fail
       refine (uh HFI).mono ?_
       rintro e w5 ⟨rfl, m5, hw5⟩
       have HB5 := zh (show Below w4.heap.size w4 w5 by rw [hw5]; exact below_drewN (uh HBQ) _)
       clear hw5
       go_wp2
       exact ⟨⟨r + 1, by go_num, by omega, uh HB5⟩, by simp [intOf]; omega⟩
      ·have l2 : ¬ (r : Int) < np := by omega
       have HKM := zh (show KFir w.heap.size w wr R gb gp gt L from ⟨_, _, hKq, uh HJ2, uh HT2, (hbq.block gt (z0e (uh HTO))).trans (uh HTO), uh HFN⟩)
       clear hbq hKq
       go_wp2
       exact ⟨⟨m + 1, gt, rfl, by go_num, by omega, uh HKM⟩, by simp [intOf]; omega⟩
    ·have HK3 := zh ((uh HK2).below hb3 (Nat.le_refl _))
     have HA := zh ((uh HK3).ask)
     have hz3 := hb3.size
     clear hb3 c2 g2 HH hf
     go_wp2_with fail
     refine (uh HA).mono ?_
     rintro e w4 ⟨gt, rfl, hgt, hto, hb4⟩
     have HKM := zh (show KFir w.heap.size w w4 R gb gp gt L from ⟨_, _, (uh HK3).below hb4 (Nat.le_refl _), uh HJ2, uh HT2, hto, fun hd => by have := (uh HK2).box.lt gt hd; omega⟩)
     clear hto hb4 HA hz3
     go_wp2
     go_loopw [16] (fun i wq => i = .int .i64 0 /\ wq = w4) (fun _ _ => 0)
     case atStart => exact ⟨rfl, rfl⟩
     case round =>
      obtain ⟨rfl, rfl⟩ := hrel
      go_wp2
      exact ⟨⟨m + 1, gt, rfl, by go_num, by omega, uh HKM⟩, by simp [intOf]; omega⟩
   ·have l1 : ¬ (m : Int) < len := by omega
    have HB := zh (show Below w.heap.size w wr by obtain ⟨C, D, hK, -⟩ := hM; exact hK.be)
    clear hM HM0
    go_wp2
    go_ret
    exact ⟨rfl, uh HB⟩
end Go.Proofs.YtkbpocecbcaiiaaGreatDoor
