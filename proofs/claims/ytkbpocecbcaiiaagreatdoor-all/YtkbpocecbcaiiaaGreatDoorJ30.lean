import Derived.Test.YtkbpocecbcaiiaaGreatDoorJ9
namespace Go.Proofs.YtkbpocecbcaiiaaGreatDoor
open Go.RowKit
def rtnBox (t : Tn) (vj : Value) : Obj := .cells #[.int .i64 t.start, vj] 177
theorem two_rtn {w wr : World} {o1 : Obj} {t : Tn} {vj : Value} (hb : Below (w.heap.size + 2) ((w.alloc o1).alloc (rtnBox t vj)) wr) :
  wr.cell? ⟨w.heap.size + 1, 0, none⟩ = some (.int .i64 t.start) /\ wr.cell? ⟨w.heap.size + 1, 1, none⟩ = some vj := by
 have h := blk2 w o1 (rtnBox t vj)
 exact ⟨z0w hb (by omega) h 0, z0w hb (by omega) h 1⟩
set_option maxHeartbeats 1000000 in
theorem stray_any (v : Value) (L : Lay) (k : Nat) (w : World) (h : RPlan w v L) (hk : k < L.tns.length) (hp : L.Paths) :
  Calls Tryz.prog 117 #[v, .int .i64 k] w fun e w' => e = .returned (.bool (L.stray k)) /\ Below w.heap.size w w' := by
 have HR := zh h
 obtain ⟨vh, vr, vt, rfl, hH, hRt, hT⟩ := h
 obtain ⟨aoh, caph, rfl, h1, h2, -⟩ := SlAt.open hH
 obtain ⟨aor, capr, rfl, r1, r2, r3⟩ := SlAt.open hRt
 obtain ⟨ao, cap, rfl, t1, t2, t3⟩ := SlAt.open hT
 obtain ⟨g, off, rfl, hg, cs, -, hC, hc⟩ := t3 k hk
 obtain ⟨vj, rfl, hJ⟩ := hC
 have hc0 := hc 0 (by omega)
 have hc1 := hc 1 (by omega)
 obtain ⟨aoj, capj, rfl, j1, j2, j3⟩ := SlAt.open hJ
 have HPS := zh hp
 have HTN := zh (tn_eq L k hk)
 clear hH hRt hT hc hJ hp
 unfold maxLen at h2 r2 t2 j2
 simp at hc0 hc1
 generalize hzz : L.stray k = z
 have HZ := zh hzz
 clear hzz
 generalize htk : L.tns[k] = tk at *
 have HTK := zh htk
 clear htk
 go_enter Tryz.func117, Tryz.ntmps117
 generalize hfl : L.flankedB tk.start = fl at *
 have HFL := zh hfl
 clear hfl
 have HZ0 := zh (show z = (decide (L.sw.length <= tk.start) || fl || (List.range k).any (fun i => (L.tn i).start == tk.start) || !L.joins tk.start tk.jny) by
  rw [<- uh HZ, Lay.stray, uh HTN, uh HFL])
 clear HZ
 go_wp2_with fail
 refine (flanked_any _ L tk.start _ ((uh HR).below ?_)).mono ?_
 ·exact z06 (o1 := z0v L (.slice aoh L.sw.length caph) (.slice aor L.rts.length capr) (.slice (some ⟨g, off, none⟩) L.tns.length cap)) (o2 := rtnBox tk (.slice aoj tk.jny.length capj)) (Below.refl _ _)
 rw [uh HFL]
 rintro e w1 ⟨rfl, hb1⟩
 have hbA : Below (w.heap.size + 2) ((w.alloc (z0v L (.slice aoh L.sw.length caph) (.slice aor L.rts.length capr) (.slice (some ⟨g, off, none⟩) L.tns.length cap))).alloc (rtnBox tk (.slice aoj tk.jny.length capj))) w1 := hb1.mono (by simp)
 have HA := zh hbA
 obtain ⟨q0, q1, q2, q3, q4, q5⟩ := z21 hbA
 obtain ⟨y0, y1⟩ := two_rtn hbA
 clear hb1 hbA hc0 hc1
 by_cases c1 : L.sw.length <= tk.start
 ·have hz := zh (show z = true by rw [uh HZ0]; simp [c1])
  go_wp2
  go_ret
  exact ⟨z04 (uh hz).symm, z06 (uh HA)⟩
 have hec : fl = true \/ fl = false := by cases fl <;> simp
 rcases hec with rfl | rfl
 ·have hz := zh (show z = true by rw [uh HZ0]; simp)
  go_wp2
  go_ret
  exact ⟨z04 (uh hz).symm, z06 (uh HA)⟩
 have HZ1 := zh (show z = ((List.range k).any (fun i => (L.tn i).start == tk.start) || !L.joins tk.start tk.jny) by rw [uh HZ0]; simp [c1])
 clear HZ0
 go_wp2
 go_loopw [7] (fun i wr => ∃ n : Nat, n <= k /\ i = .int .i64 n /\ (List.range n).any (fun i => (L.tn i).start == tk.start) = false ∧
   Below (w.heap.size + 2) ((w.alloc (z0v L (.slice aoh L.sw.length caph) (.slice aor L.rts.length capr) (.slice (some ⟨g, off, none⟩) L.tns.length cap))).alloc (rtnBox tk (.slice aoj tk.jny.length capj))) wr) (fun i _ => k - (intOf i).toNat)
 case atStart => exact ⟨0, Nat.zero_le _, rfl, rfl, uh HA⟩
 case round =>
  clear q0 q1 q2 q3 q4 q5 y0 y1 HA
  obtain ⟨n, hn, rfl, hz, hb⟩ := hrel
  have HQ := zh hz
  have HB := zh hb
  obtain ⟨q0, q1, q2, q3, q4, q5⟩ := z21 hb
  obtain ⟨y0, y1⟩ := two_rtn hb
  clear hz
  by_cases hlt : n < k
  ·have hnL : n < L.tns.length := by omega
   have HAS := zh (z2s (fun i => (L.tn i).start == tk.start) n)
   have HTI := zh (show (L.tn n).start = L.tns[n].start by rw [tn_eq L n hnL])
   obtain ⟨g', off', hao, hg', cs2, -, hC2, hd⟩ := t3 n hnL
   simp only [Option.some.injEq, Addr.mk.injEq, and_true] at hao
   obtain ⟨rfl, rfl⟩ := hao
   obtain ⟨vj2, rfl, -⟩ := hC2
   have hd0 := hd 0 (by omega)
   rw [<- (z06 hb).cell (p := ⟨g, _, none⟩) hg] at hd0
   simp at hd0
   clear hd t3 hb r3 j3
   have hl1 : (0 : Int) <= n := by omega
   have hl2 : (n : Int) < L.tns.length := by omega
   generalize L.tns[n].start = sn at *
   by_cases ce : sn = tk.start
   ·have hz := zh (show z = true by rw [uh HZ1, z2t _ k n hlt (by simp [uh HTI, ce]), Bool.true_or])
    have d : ((sn : Int) == (tk.start : Int)) = true := by simp; omega
    clear ce
    go_wp2_with fail
    go_quiet (fail)
    go_wp2
    go_ret
    exact ⟨z04 (uh hz).symm, below_drewN (z06 (uh HB)) _⟩
   ·have hz := zh (show ((L.tn n).start == tk.start) = false by simp [uh HTI, ce])
    have d : ((sn : Int) == (tk.start : Int)) = false := by simp; omega
    clear ce
    go_wp2_with fail
    go_quiet (fail)
    go_wp2
    exact ⟨⟨n + 1, by omega, by go_num, by rw [uh HAS, uh HQ, uh hz]; rfl, below_drewN (uh HB) _⟩, by simp [intOf]; omega⟩
  ·have HZ2 := zh (show z = !L.joins tk.start tk.jny by
    obtain rfl : n = k := by omega
    rw [uh HZ1, uh HQ, Bool.false_or])
   clear HZ1 hb
   go_wp2
   go_loopw [8, 9] (fun a i wr => ∃ n s : Nat, n <= tk.jny.length /\ i = .int .i64 n /\ a = .int .i64 s /\ L.joins tk.start tk.jny = L.joins s (tk.jny.drop n) ∧
     Below (w.heap.size + 2) ((w.alloc (z0v L (.slice aoh L.sw.length caph) (.slice aor L.rts.length capr) (.slice (some ⟨g, off, none⟩) L.tns.length cap))).alloc (rtnBox tk (.slice aoj tk.jny.length capj))) wr) (fun _ i _ => tk.jny.length - (intOf i).toNat)
   case atStart => exact ⟨0, tk.start, Nat.zero_le _, rfl, rfl, rfl, uh HB⟩
   case round =>
   clear HQ HB q0 q1 q2 q3 q4 q5 y0 y1 hn hlt t3
   obtain ⟨n, s, hn, rfl, rfl, hz, hb⟩ := hrel
   have HQ := zh hz
   have HB := zh hb
   obtain ⟨q0, q1, q2, q3, q4, q5⟩ := z21 hb
   obtain ⟨y0, y1⟩ := two_rtn hb
   have qs := z17 hb
   clear hz
   by_cases hlt : n < tk.jny.length
   ·obtain ⟨gj, offj, hao, hgj, cs3, -, hC3, he⟩ := j3 n hlt
    subst hao
    unfold CInt at hC3
    subst hC3
    have he0 := he 0 (by omega)
    rw [<- (z06 hb).cell (p := ⟨gj, _, none⟩) hgj] at he0
    simp at he0
    have HJ := zh (show L.joins s (tk.jny.drop n) = (decide (tk.jny[n] < L.rts.length) && (L.rt tk.jny[n]).foot == s && L.joins (L.endOf tk.jny[n]) (tk.jny.drop (n + 1))) by
     rw [List.drop_eq_getElem_cons hlt]; rfl)
    clear he j3
    generalize tk.jny[n] = r at *
    by_cases cr : r < L.rts.length
    ·obtain ⟨gr, offr, hao, hgr, cs4, -, hC4, hf⟩ := r3 r cr
     subst hao
     obtain ⟨vp, vs, vf, vl, rfl, -, -, -, -⟩ := hC4
     have hf0 := hf 0 (by omega)
     rw [<- (z06 hb).cell (p := ⟨gr, _, none⟩) hgr] at hf0
     simp at hf0
     rw [rt_eq L r cr] at HJ
     clear hf r3 hb
     generalize L.rts[r].foot = ft at *
     have d1 : decide ((L.rts.length : Int) <= (r : Int)) = false := by simp; omega
     have d2 : (0 : Int) <= r := by omega
     have d3 : (r : Int) < L.rts.length := by omega
     by_cases ce : ft = s
     ·have d4 : ((ft : Int) != (s : Int)) = false := by simp; omega
      have hJ := zh (show L.joins tk.start tk.jny = L.joins (L.endOf r) (tk.jny.drop (n + 1)) by rw [uh HQ, uh HJ]; simp [cr, ce])
      clear ce
      go_wp2_with fail
      refine (End_any _ L r _ ((uh HR).below (z06 (uh HB))) cr (uh HPS)).mono ?_
      rintro e w2 ⟨rfl, hb2⟩
      have hb5 := (uh HB).trans (hb2.mono (B' := w.heap.size + 2) (by omega))
      clear hb2
      go_wp2
      exact ⟨⟨n + 1, L.endOf r, by omega, by go_num, rfl, uh hJ, hb5⟩, by simp [intOf]; omega⟩
     ·have d4 : ((ft : Int) != (s : Int)) = true := by simp; omega
      have hz := zh (show z = true by rw [uh HZ2, uh HQ, uh HJ]; simp [ce])
      clear ce
      go_wp2
      go_ret
      exact ⟨z04 (uh hz).symm, z06 (uh HB)⟩
    ·have hz := zh (show z = true by rw [uh HZ2, uh HQ, uh HJ]; simp [cr])
     have d1 : decide ((L.rts.length : Int) <= (r : Int)) = true := by simp; omega
     clear r3 hb
     go_wp2
     go_ret
     exact ⟨z04 (uh hz).symm, z06 (uh HB)⟩
   ·have hz := zh (show z = false by
     rw [uh HZ2, uh HQ, List.drop_of_length_le (by omega)]; rfl)
    clear r3 hb j3
    go_wp2
    go_ret
    exact ⟨z04 (uh hz).symm, z06 (uh HB)⟩
set_option maxHeartbeats 1000000 in
theorem large_any (v : Value) (L : Lay) (w : World) (h : RPlan w v L) :
  Calls Tryz.prog 115 #[v] w fun e w' => e = .returned (.bool L.big) /\ Below w.heap.size w w' := by
 obtain ⟨vh, vr, vt, rfl, hH, hR, hT⟩ := h
 obtain ⟨aoh, caph, rfl, h1, h2, -⟩ := SlAt.open hH
 obtain ⟨aor, capr, rfl, r1, r2, r3⟩ := SlAt.open hR
 obtain ⟨aot, capt, rfl, t1, t2, t3⟩ := SlAt.open hT
 clear hH hR hT
 unfold maxLen at h2 r2 t2
 generalize hzz : L.big = z
 have HZ := zh hzz
 clear hzz
 by_cases c1 : 16 < L.sw.length
 ·have hz := zh (show z = true by rw [<- uh HZ]; simp [Lay.big, c1])
  have c1' : (16 : Int) < L.sw.length := by omega
  go_enter Tryz.func115, Tryz.ntmps115
  go_wp2
  go_ret
  exact ⟨z04 (uh hz).symm, z02 _ _⟩
 by_cases c2 : 12 < L.rts.length
 ·have hz := zh (show z = true by rw [<- uh HZ]; simp [Lay.big, c2])
  have c1' : ¬ (16 : Int) < L.sw.length := by omega
  go_enter Tryz.func115, Tryz.ntmps115
  go_wp2
  go_ret
  exact ⟨z04 (uh hz).symm, z02 _ _⟩
 by_cases c3 : 5 < L.tns.length
 ·have hz := zh (show z = true by rw [<- uh HZ]; simp [Lay.big, c3])
  go_enter Tryz.func115, Tryz.ntmps115
  go_wp2
  go_ret
  exact ⟨z04 (uh hz).symm, z02 _ _⟩
 have HZ2 := zh (show z = (L.rts.any (fun r => decide (6 < r.path.length) || decide (4 < r.flank.length)) || L.tns.any (fun t => decide (8 < t.jny.length))) by rw [<- uh HZ]; simp [Lay.big, c1, c2, c3])
 clear HZ
 go_enter Tryz.func115, Tryz.ntmps115
 go_wp2
 go_loopw [3] (fun i wr => ∃ k : Nat, k <= L.rts.length /\ i = .int .i64 k /\ (L.rts.take k).any (fun r => decide (6 < r.path.length) || decide (4 < r.flank.length)) = false ∧
   Below (w.heap.size + 1) (w.alloc (z0v L (.slice aoh L.sw.length caph) (.slice aor L.rts.length capr) (.slice aot L.tns.length capt))) wr) (fun i _ => L.rts.length - (intOf i).toNat)
 case atStart => exact ⟨0, Nat.zero_le _, rfl, rfl, Below.refl _ _⟩
 case round =>
  obtain ⟨k, hk, rfl, hz, hb⟩ := hrel
  have HQ := zh hz
  have HB := zh hb
  obtain ⟨q0, q1, q2, q3, q4, q5, qs⟩ := z15 hb
  clear hz
  by_cases hlt : k < L.rts.length
  ·have HA := zh (z2n (fun r : Rt => decide (6 < r.path.length) || decide (4 < r.flank.length)) L.rts k hlt)
   obtain ⟨g, off, hao, hg, cs, -, hC, hc⟩ := r3 k hlt
   subst hao
   obtain ⟨vp, vs, vf, vl, rfl, hP, -, hF, -⟩ := hC
   have hc1 := hc 1 (by omega)
   have hc3 := hc 3 (by omega)
   rw [<- (z05 hb).cell (p := ⟨g, _, none⟩) hg] at hc1 hc3
   obtain ⟨aop, capp, rfl, p1, p2, -⟩ := SlAt.open hP
   obtain ⟨aof, capf, rfl, f1, f2, -⟩ := SlAt.open hF
   clear hc r3 t3 hP hF hb
   unfold maxLen at p2 f2
   simp [secs] at hc1 hc3
   have hmem : L.rts[k] ∈ L.rts := List.getElem_mem hlt
   have HM := zh (fun (h : (decide (6 < L.rts[k].path.length) || decide (4 < L.rts[k].flank.length)) = true) => show z = true by
    rw [uh HZ2, List.any_eq_true.2 ⟨_, hmem, h⟩, Bool.true_or])
   clear hmem
   generalize L.rts[k].path = pp at *
   generalize L.rts[k].flank = ff at *
   simp [secs] at p1 f1
   by_cases d1 : 6 < pp.length
   ·have hz := zh (uh HM (by simp [d1]))
    have hb3 := z05 (uh HB)
    have d1' : (6 : Int) < pp.length := by omega
    go_wp2
    go_ret
    exact ⟨z04 (uh hz).symm, hb3⟩
   by_cases d2 : 4 < ff.length
   ·have hz := zh (uh HM (by simp [d2]))
    have hb3 := z05 (uh HB)
    go_wp2
    go_ret
    exact ⟨z04 (uh hz).symm, hb3⟩
   ·go_wp2
    exact ⟨⟨k + 1, by omega, by go_num, by rw [uh HA, uh HQ]; simp; omega, uh HB⟩, by simp [intOf]; omega⟩
  ·have HZ3 := zh (show z = L.tns.any (fun t => decide (8 < t.jny.length)) by
    rw [uh HZ2, <- Bool.false_or (L.tns.any _), <- uh HQ, List.take_of_length_le (by omega)]; simp)
   clear HZ2 hb
   go_wp2
   go_loopw [4] (fun i wr => ∃ k : Nat, k <= L.tns.length /\ i = .int .i64 k /\ (L.tns.take k).any (fun t => decide (8 < t.jny.length)) = false ∧
     Below (w.heap.size + 1) (w.alloc (z0v L (.slice aoh L.sw.length caph) (.slice aor L.rts.length capr) (.slice aot L.tns.length capt))) wr) (fun i _ => L.tns.length - (intOf i).toNat)
   case atStart => exact ⟨0, Nat.zero_le _, rfl, rfl, uh HB⟩
   case round =>
    clear HQ HB q0 q1 q2 q3 q4 q5 qs hk hlt
    obtain ⟨k, hk, rfl, hz, hb⟩ := hrel
    have HQ := zh hz
    have HB := zh hb
    obtain ⟨q0, q1, q2, q3, q4, q5, qs⟩ := z15 hb
    clear hz
    by_cases hlt : k < L.tns.length
    ·have HA := zh (z2n (fun t : Tn => decide (8 < t.jny.length)) L.tns k hlt)
     obtain ⟨g, off, hao, hg, cs, -, hC, hc⟩ := t3 k hlt
     subst hao
     obtain ⟨vj, rfl, hJ⟩ := hC
     have hc1 := hc 1 (by omega)
     rw [<- (z05 hb).cell (p := ⟨g, _, none⟩) hg] at hc1
     obtain ⟨aoj, capj, rfl, j1, j2, -⟩ := SlAt.open hJ
     clear hc r3 t3 hJ hb
     unfold maxLen at j2
     simp at hc1
     have hmem : L.tns[k] ∈ L.tns := List.getElem_mem hlt
     have HM := zh (fun (h : decide (8 < L.tns[k].jny.length) = true) => show z = true by
      rw [uh HZ3]; exact List.any_eq_true.2 ⟨_, hmem, h⟩)
     clear hmem
     generalize L.tns[k].jny = jl at *
     by_cases d1 : 8 < jl.length
     ·have hz := zh (uh HM (by simp [d1]))
      have hb3 := z05 (uh HB)
      go_wp2
      go_ret
      exact ⟨z04 (uh hz).symm, hb3⟩
     ·go_wp2
      exact ⟨⟨k + 1, by omega, by go_num, by rw [uh HA, uh HQ]; simp; omega, uh HB⟩, by simp [intOf]; omega⟩
    ·have hz := zh (show z = false by rw [uh HZ3, <- uh HQ, List.take_of_length_le (by omega)])
     have hb3 := z05 (uh HB)
     clear hb
     go_wp2
     go_ret
     exact ⟨z04 (uh hz).symm, hb3⟩
end Go.Proofs.YtkbpocecbcaiiaaGreatDoor
