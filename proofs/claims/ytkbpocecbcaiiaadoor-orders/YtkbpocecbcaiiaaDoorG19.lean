import Derived.Test.YtkbpocecbcaiiaaDoorG5
import Derived.Test.YtkbpocecbcaiiaaDoorG18
/-
  THE WALK OVER railsref.Ordered, at an answer that is right.
-/
namespace Go.Proofs.YtkbpocecbcaiiaaDoor
open Go.RowKit

set_option maxHeartbeats 400000 in
theorem Ordered_err (s a : ByteArray) (E : Nat) (w : World) (hF : FormOK) (h0 : (safeOf s.data.toList a.data.toList).2 ≠ 0) (hE : E = (safeOf s.data.toList a.data.toList).2) :
    Calls Tryd.prog 5 #[.string s, .string a, .string ⟨#[]⟩, .int .i64 E] w fun e w' => e = .returned (.bool true) ∧ Below w.heap.size w w' := by
  have H := hide (rSafe_any s a w hF)
  rw [← hE] at H h0
  generalize (safeOf s.data.toList a.data.toList).1 = b at *
  have hz : ((E : Int) != 0) = true := by simp [h0]
  clear hF hE h0
  go_enter Tryd.func5, Tryd.ntmps5
  go_wp2_with fail
  refine (unhide H).mono ?_
  rintro e w1 ⟨rfl, hb⟩
  have HB := hide hb
  clear hb H
  go_wp2
  go_ret
  exact ⟨rfl, unhide HB⟩

set_option maxHeartbeats 400000 in
theorem Ordered_stuck (s a : ByteArray) (w : World) (hF : FormOK) (hE : safeOf s.data.toList a.data.toList = (false, 0)) :
    Calls Tryd.prog 5 #[.string s, .string a, .string ⟨#[]⟩, .int .i64 8] w fun e w' => e = .returned (.bool true) ∧ Below w.heap.size w w' := by
  have H := hide (rSafe_any s a w hF)
  rw [hE] at H
  clear hF hE
  go_enter Tryd.func5, Tryd.ntmps5
  go_wp2_with fail
  refine (unhide H).mono ?_
  rintro e w1 ⟨rfl, hb⟩
  have HB := hide hb
  clear hb H
  go_wp2
  go_ret
  exact ⟨rfl, unhide HB⟩

theorem safe_true {l a : List UInt8} (h : safeOf l a = (true, 0)) : (errOf l).1 = 0 ∧ (layOf l).stateB a = true := by
  unfold safeOf at h
  by_cases h1 : (errOf l).1 = 0
  · rw [if_neg (by simp [h1])] at h
    cases hs : (layOf l).stateB a with
    | true => exact ⟨h1, rfl⟩
    | false => rw [hs, if_pos rfl] at h; cases h
  · rw [if_pos h1] at h; cases h

set_option maxHeartbeats 1000000 in
theorem Ordered_told (s a : ByteArray) (ts : List Nat) (w : World) (hF : FormOK) (hE : safeOf s.data.toList a.data.toList = (true, 0)) (hfo : (layOf s.data.toList).Foll (digs a.data.toList) ts) (h9 : ∀ t, t ∈ ts → t < 9) (hts : ts.length ≤ 1000) :
    Calls Tryd.prog 5 #[.string s, .string a, .string (ordStr ts), .int .i64 0] w fun e w' => e = .returned (.bool true) ∧ Below w.heap.size w w' := by
  have H := hide (rSafe_any s a w hF)
  rw [hE] at H
  have HRD := hide (fun w => Read_any s w (fun h => hF _ (by simpa using h)))
  obtain ⟨h0, hst⟩ := safe_true hE
  obtain ⟨k1, k2, k3, k4, k5, k6⟩ := err0 s.data.toList h0
  have hform := hF s.data.toList k1 k2
  have hpaths : (layOf s.data.toList).Paths := by obtain ⟨-, -, -, -, p0, p1, p2, p3, -, -, -, h⟩ := hform; exact h
  have hjn := jnys_of _ k5
  have htl : (layOf s.data.toList).tns.length ≤ 5 := by
    unfold Lay.big at k3
    simp only [Bool.or_eq_false_iff, decide_eq_false_iff_not] at k3
    omega
  have hlen : (digs a.data.toList).length = (layOf s.data.toList).tns.length := by
    unfold Lay.stateB at hst
    simp only [Bool.and_eq_true, beq_iff_eq] at hst
    simpa [digs] using hst.1
  generalize layOf s.data.toList = L at *
  generalize errOf s.data.toList = E at *
  obtain ⟨os, hos⟩ : ∃ os, os = ordStr ts := ⟨_, rfl⟩
  have HG := hide (show ∀ k (h : k < os.size), ∃ h' : k < ts.length, os[k].toNat = 49 + ts[k] by
    intro k h
    subst hos
    exact ⟨by rw [ordStr_size] at h; exact h, ordStr_get ts k h h9⟩)
  have hsz : os.size = ts.length := by rw [hos]; exact ordStr_size ts
  rw [← hos]
  have HSZ := hide hsz
  have hsz2 : os.size ≤ 1000 := by omega
  have HJ := hide hjn
  have HPA := hide hpaths
  have H0 := hide h0
  have HST := hide hst
  have HLEN := hide hlen
  have HFO := hide hfo
  have H9 := hide h9
  clear hos hsz hF hE h0 hst k1 k2 k3 k4 k5 k6 hform hpaths hjn hlen hfo h9 hts
  go_enter Tryd.func5, Tryd.ntmps5
  go_wp2_with fail
  refine (unhide H).mono ?_
  rintro e w1 ⟨rfl, hb⟩
  have HB1 := hide hb
  clear hb H
  go_wp2_with fail
  refine (unhide HRD _).mono ?_
  rintro e w2 ⟨v, rfl, ⟨T, D, Q, a1, a2, a3, n1, n2, n3, d1, d2, d3, rfl⟩, hR, hb⟩
  have HR := hide (hR (unhide H0))
  have HB2 := hide ((unhide HB1).trans (hb.mono (unhide HB1).size))
  clear hR hb HRD
  have HS := hide (state_any _ L a _ ((unhide HR).below (below_alloc w2 (.cells #[.int .i64 T, .int .i64 D, .int .i64 Q, .slice a1 n1 d1, .slice a2 n2 d2, .slice a3 n3 d3] 38))) (by omega))
  rw [unhide HST] at HS
  go_wp2_with fail
  refine (unhide HS).mono ?_
  rintro e w3 ⟨v', rfl, hI, hb2⟩
  have HIN := hide (hI (by trivial))
  have HBX := hide (hb2.mono (by simp) : Below (w2.heap.size + 1) (w2.alloc (.cells #[.int .i64 T, .int .i64 D, .int .i64 Q, .slice a1 n1 d1, .slice a2 n2 d2, .slice a3 n3 d3] 38)) w3)
  clear hI hb2 HS
  obtain ⟨vh, vr, vt, hv, hH, hRt, hT⟩ := unhide HR
  simp only [Value.agg.injEq, Array.mk.injEq, List.cons.injEq, and_true, Value.int.injEq, true_and] at hv
  obtain ⟨-, -, -, rfl, rfl, rfl⟩ := hv
  obtain ⟨ao, cap, hv2, t1, t2, t3⟩ := SlAt.open hT
  simp only [Value.slice.injEq] at hv2
  obtain ⟨rfl, rfl, rfl⟩ := hv2
  unfold maxLen at t2
  clear hT hH hRt
  go_wp2
  go_loopw [14, 16] (fun r i wr => ∃ (k : Nat) (at_ : List Nat), k ≤ os.size ∧ i = .int .i64 k ∧ Ints wr r at_ ∧ at_.length = L.tns.length ∧ L.Foll at_ (ts.drop k) ∧
      Below (w2.heap.size + 1) (w2.alloc (.cells #[.int .i64 T, .int .i64 D, .int .i64 Q, .slice a1 n1 d1, .slice a2 n2 d2, .slice a3 L.tns.length d3] 38)) wr) (fun _ i _ => os.size - (intOf i).toNat)
  case atStart => exact ⟨0, _, Nat.zero_le _, rfl, unhide HIN, unhide HLEN, unhide HFO, unhide HBX⟩
  case round =>
    clear HIN HLEN HFO HBX HST
    obtain ⟨k, at_, hk, rfl, hI, hla, hfo, hb⟩ := hrel
    have HB := hide hb
    have HI := hide hI
    have HLA := hide hla
    have q0 := box_cell hb 0
    have q1 := box_cell hb 1
    have q2 := box_cell hb 2
    have q3 := box_cell hb 3
    have q4 := box_cell hb 4
    have q5 := box_cell hb 5
    simp at q0 q1 q2 q3 q4 q5
    have qs := box_size hb
    obtain ⟨aoa, capa, rfl, b1, b2, b3⟩ := SlAt.open hI
    unfold maxLen at b2
    clear hI
    have hal : at_.length ≤ 5 := by omega
    by_cases hlt : k < os.size
    · obtain ⟨hkt, hck⟩ := unhide HG k hlt
      rw [List.drop_eq_getElem_cons hkt] at hfo
      have h9 := unhide H9 _ (List.getElem_mem hkt)
      generalize ts[k] = t at *
      obtain ⟨f1, f2, f3, f4⟩ := hfo
      have HF4 := hide f4
      have HRUN := hide f3
      have htL : t < L.tns.length := by omega
      obtain ⟨g, off, hao, hg, cs, -, hC, hc⟩ := t3 t htL
      subst hao
      obtain ⟨vj, rfl, hJ⟩ := hC
      have hc1 := hc 1 (by omega)
      have HC1 := hide (fun wz (hz : Below w2.heap.size w2 wz) => (hz.cell (p := ⟨g, _, none⟩) hg).trans hc1)
      rw [← (box_below hb).cell (p := ⟨g, _, none⟩) hg] at hc1
      obtain ⟨aoj, capj, rfl, j1, j2, -⟩ := SlAt.open hJ
      obtain ⟨ga, offa, hao, hga, cs2, -, hC2, hd⟩ := b3 t f1
      subst hao
      unfold CInt at hC2
      subst hC2
      have hd0 := hd 0 (by omega)
      have hdn : ¬ L.tns[t].jny.length ≤ at_[t] := by
        have : L.doneB at_ t = decide (L.tns[t].jny.length ≤ at_[t]) := by simp only [Lay.doneB, tn_eq L t htL, getD_eq at_ t f1]
        rw [this] at f2
        simpa using f2
      have HW := hide (show L.withN at_ t = at_.set t L.tns[t].jny.length by simp only [Lay.withN, tn_eq L t htL])
      simp at hc1 hd0
      clear hc hd t3 b3 hJ hb f2 f3 f4 hla
      unfold maxLen at j2
      generalize L.tns[t].jny = jl at *
      generalize at_[t] = n at *
      obtain ⟨c, hce⟩ : ∃ c, os[k].toNat = c := ⟨_, rfl⟩
      rw [hce] at hck
      have hct : (c : Int) - 49 = (t : Int) := by omega
      have hcb : c < 256 := by omega
      have HCK := hide hck
      clear hck
      go_wp2
      go_quiet (fail)
      have HI1 := hide (fun n => (unhide HI).below (below_drewN (Below.refl wr.heap.size wr) n))
      have HB1 := hide (fun n => below_drewN (unhide HB) n)
      go_wp2_with fail
      refine (runs_any _ _ L at_ t _ ((unhide HR).below (box_below (unhide HB1 _))) (unhide HI1 _) f1 (unhide HLA) (unhide HPA) (unhide HJ)).mono ?_
      rw [unhide HRUN]
      rintro e w' ⟨rfl, hb'⟩
      have hb4 := (unhide HB1 _).trans (hb'.mono (B' := w2.heap.size + 1) qs)
      have hc1 := unhide HC1 w' (box_below hb4)
      have q5 := box_cell hb4 5
      simp at hc1 q5
      have HI3 := hide ((unhide HI1 _).below hb')
      have HBS := hide hb'.size
      clear q0 q1 q2 q3 q4 hb'
      have HB4 := hide hb4
      clear hb4
      go_wp2_with fail
      refine (with_any _ at_ t jl.length _ (unhide HI3) (by omega)).mono ?_
      rintro e w4 ⟨v2, rfl, hI2, hb2⟩
      have HB5 := hide ((unhide HB4).trans (hb2.mono (B' := w2.heap.size + 1) (box_size (unhide HB4))))
      rw [← unhide HW] at hI2
      have HI2 := hide hI2
      clear hb2 hI2
      go_wp2
      exact ⟨⟨k + 1, L.withN at_ t, by omega, by go_num, unhide HI2, by simp only [Lay.withN, List.length_set]; exact unhide HLA, unhide HF4, unhide HB5⟩, by simp [intOf]; omega⟩
    · have hkd : ts.drop k = [] := List.drop_of_length_le (by have := unhide HSZ; omega)
      rw [hkd] at hfo
      have HD := hide (show ∀ t, t < at_.length → L.doneB at_ t = true by
        intro t ht
        have : L.allDone at_ = true := hfo
        unfold Lay.allDone at this
        rw [List.all_eq_true] at this
        exact this t (List.mem_range.2 ht))
      clear hkd hfo hla hb
      go_wp2
      go_loopw [19] (fun i wz => ∃ t : Nat, t ≤ at_.length ∧ i = .int .i64 t ∧ Ints wz (.slice aoa at_.length capa) at_ ∧
          Below (w2.heap.size + 1) (w2.alloc (.cells #[.int .i64 T, .int .i64 D, .int .i64 Q, .slice a1 n1 d1, .slice a2 n2 d2, .slice a3 L.tns.length d3] 38)) wz) (fun i _ => at_.length - (intOf i).toNat)
      case atStart => exact ⟨0, Nat.zero_le _, rfl, unhide HI, unhide HB⟩
      case round =>
        clear q0 q1 q2 q3 q4 q5 HI HB b1 b2 b3 qs
        obtain ⟨t, ht, rfl, hI, hb⟩ := hrel
        have HB := hide hb
        have HI := hide hI
        have q0 := box_cell hb 0
        have q1 := box_cell hb 1
        have q2 := box_cell hb 2
        have q3 := box_cell hb 3
        have q4 := box_cell hb 4
        have q5 := box_cell hb 5
        simp at q0 q1 q2 q3 q4 q5
        have qs := box_size hb
        obtain ⟨aob, capb, hv, b1, b2, b3⟩ := SlAt.open hI
        simp only [Value.slice.injEq] at hv
        obtain ⟨rfl, -, rfl⟩ := hv
        unfold maxLen at b2
        clear hI
        by_cases hlt2 : t < at_.length
        · have htL : t < L.tns.length := by have := unhide HLA; omega
          obtain ⟨g, off, hao, hg, cs, -, hC, hc⟩ := t3 t htL
          subst hao
          obtain ⟨vj, rfl, hJ⟩ := hC
          have hc1 := hc 1 (by omega)
          rw [← (box_below hb).cell (p := ⟨g, _, none⟩) hg] at hc1
          obtain ⟨aoj, capj, rfl, j1, j2, -⟩ := SlAt.open hJ
          obtain ⟨ga, offa, hao, hga, cs2, -, hC2, hd⟩ := b3 t hlt2
          subst hao
          unfold CInt at hC2
          subst hC2
          have hd0 := hd 0 (by omega)
          have hdn : L.tns[t].jny.length ≤ at_[t] := by
            have h2 := unhide HD t hlt2
            have : L.doneB at_ t = decide (L.tns[t].jny.length ≤ at_[t]) := by simp only [Lay.doneB, tn_eq L t htL, getD_eq at_ t hlt2]
            rw [this] at h2
            simpa using h2
          simp at hc1 hd0
          clear hc hd t3 b3 hJ hb
          unfold maxLen at j2
          generalize L.tns[t].jny = jl at *
          generalize at_[t] = n at *
          go_wp2
          go_quiet (fail)
          go_wp2
          exact ⟨⟨t + 1, by omega, by go_num, (unhide HI).below (by first | exact Below.refl _ _ | exact below_drewN (Below.refl _ _) _), by first | exact unhide HB | exact below_drewN (unhide HB) _⟩, by simp [intOf]; omega⟩
        · have hbe := hide ((unhide HB2).trans ((box_below (unhide HB)).mono (unhide HB2).size))
          clear b3 hb t3
          go_wp2
          go_ret
          exact ⟨rfl, unhide hbe⟩
end Go.Proofs.YtkbpocecbcaiiaaDoor
