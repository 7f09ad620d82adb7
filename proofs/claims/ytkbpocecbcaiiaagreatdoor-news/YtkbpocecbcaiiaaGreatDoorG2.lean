import Derived.Test.YtkbpocecbcaiiaaGreatDoorProg
import Derived.Test.YtkbpocecbcaiiaaGreatDoorG1
import Derived.KernelRfl
import Derived.Deep.RegionWith
import Derived.Deep.QuietTactic
import Derived.BigQuiet
import Derived.WalkSmall
/-
  THE WALKS OVER railsref.Plan's End, ends, flanked.
-/
namespace Go.Proofs.YtkbpocecbcaiiaaGreatDoor
open Go.RowKit

theorem lastN_eq (p : List (Nat × Nat)) (h : p ≠ []) : ∃ hk : p.length - 1 < (secs p).length, (secs p)[p.length - 1] = lastN p := by
  have hp : 0 < p.length := List.length_pos_iff.2 h
  refine ⟨by simp [secs]; omega, ?_⟩
  simp [secs, lastN, List.getLastD_eq_getLast?, List.getLast?_eq_getElem?, List.getElem?_eq_getElem (show p.length - 1 < p.length by omega)]

set_option maxHeartbeats 400000 in
theorem End_any (v : Value) (L : Lay) (r : Nat) (w : World) (h : RPlan w v L) (hr : r < L.rts.length) (hp : L.Paths) :
    Calls Tryz.prog 170 #[v, .int .i64 r] w fun e w' => e = .returned (.int .i64 (L.endOf r)) ∧ Below w.heap.size w w' := by
  obtain ⟨vh, vr, vt, rfl, -, hR, -⟩ := h
  obtain ⟨ao, cap, rfl, h1, h2, h3⟩ := SlAt.open hR
  obtain ⟨g, off, rfl, hg, cs, -, hC, hc⟩ := h3 r hr
  obtain ⟨vp, vs, vf, vl, rfl, hP, -, -, -⟩ := hC
  have hc1 := hc 1 (by omega)
  obtain ⟨ao2, cap2, rfl, g1, g2, g3⟩ := SlAt.open hP
  have hne : L.rts[r].path ≠ [] := hp _ (List.getElem_mem hr)
  obtain ⟨hk, he⟩ := lastN_eq _ hne
  have hpos : 0 < L.rts[r].path.length := List.length_pos_iff.2 hne
  obtain ⟨gp, offp, rfl, hgp, cs2, -, hC2, hd⟩ := g3 _ hk
  unfold CInt at hC2
  subst hC2
  have hd0 := hd 0 (by omega)
  have hend : L.endOf r = lastN L.rts[r].path := by simp [Lay.endOf, Lay.rt, List.getD_eq_getElem?_getD, List.getElem?_eq_getElem hr]
  rw [hend]
  rw [he] at hd0
  clear hc hd g3 h3 hR hP hend he hp
  unfold maxLen at h2 g2
  generalize L.rts[r].path = p at *
  simp [secs] at hd0 hc1 g1 hk
  go_enter Tryz.func170, Tryz.ntmps170
  go_wp2
  go_ret
  exact ⟨rfl, below_alloc _ _⟩

theorem any_take {α : Type} (p : α → Bool) (l : List α) (k : Nat) (h : k < l.length) : (l.take (k + 1)).any p = ((l.take k).any p || p l[k]) := by
  rw [List.take_succ_eq_append_getElem h, List.any_append, List.any_cons, List.any_nil, Bool.or_false]
theorem rt_eq (L : Lay) (r : Nat) (h : r < L.rts.length) : L.rt r = L.rts[r] := by
  simp [Lay.rt, List.getD_eq_getElem?_getD, List.getElem?_eq_getElem h]

set_option maxHeartbeats 400000 in
theorem ends_any (v : Value) (L : Lay) (s : Nat) (w : World) (h : RPlan w v L) (hp : L.Paths) :
    Calls Tryz.prog 168 #[v, .int .i64 s] w fun e w' => e = .returned (.bool (L.endsB s)) ∧ Below w.heap.size w w' := by
  have HR := hide h
  obtain ⟨vh, vr, vt, rfl, -, hR, -⟩ := h
  obtain ⟨ao, cap, rfl, h1, h2, -⟩ := SlAt.open hR
  clear hR
  unfold maxLen at h2
  go_enter Tryz.func168, Tryz.ntmps168
  go_wp2
  go_loopw [5] (fun i wr => ∃ k : Nat, k ≤ L.rts.length ∧ i = .int .i64 k ∧ (L.rts.take k).any (fun r => lastN r.path == s) = false ∧
      Below (w.heap.size + 1) (w.alloc (planBox L vh (.slice ao L.rts.length cap) vt)) wr) (fun i _ => L.rts.length - (intOf i).toNat)
  case atStart => exact ⟨0, Nat.zero_le _, rfl, rfl, Below.refl _ _⟩
  case round =>
    obtain ⟨k, hk, rfl, hz, hb⟩ := hrel
    have HZ := hide hz
    have HB := hide hb
    obtain ⟨q0, q1, q2, q3, q4, q5, qs⟩ := plan_cells hb
    clear hz hb
    by_cases hlt : k < L.rts.length
    · have HA := hide (any_take (fun r => lastN r.path == s) L.rts k hlt)
      have HE := hide (rt_eq L k hlt)
      go_wp2_with (go_at_call 170; refine (End_any _ L k _ ((unhide HR).below (box_below (unhide HB))) hlt hp).mono ?_; rintro e w' ⟨rfl, hb'⟩)
      · have ht : ((L.endOf k : Int) == (s : Int)) = true := by assumption
        have hs : L.endsB s = true := by
          rw [Lay.endsB, List.any_eq_true]
          refine ⟨L.rts[k], List.getElem_mem hlt, ?_⟩
          simp only [beq_iff_eq, Lay.endOf, unhide HE] at ht ⊢
          omega
        have hb3 := box_below ((unhide HB).trans (hb'.mono (by omega)))
        go_ret
        exact ⟨ret_bool hs.symm, hb3⟩
      · have ht : ((L.endOf k : Int) == (s : Int)) = false := by assumption
        have hs : (lastN L.rts[k].path == s) = false := by
          simp only [beq_eq_false_iff_ne, Lay.endOf, unhide HE, ne_eq] at ht ⊢
          omega
        exact ⟨⟨k + 1, by omega, by go_num, by rw [unhide HA, unhide HZ, hs]; rfl, (unhide HB).trans (hb'.mono (by omega))⟩, by simp [intOf]; omega⟩
    · have hs : L.endsB s = false := by rw [Lay.endsB, ← (unhide HZ), List.take_of_length_le (by omega)]
      have hb3 := box_below (unhide HB)
      go_wp2
      go_ret
      exact ⟨ret_bool hs.symm, hb3⟩

theorem times_has (p : List (Nat × Nat)) (s : Nat) : decide (0 < timesZ (secs p) s) = has p s := by
  unfold timesZ has
  rw [Bool.eq_iff_iff]
  simp only [decide_eq_true_eq, List.contains_iff_mem]
  constructor
  · intro h
    have h : 0 < ((secs p).filter (fun y : Nat => ((y : Int) == (s : Int)))).length := by omega
    obtain ⟨x, hx⟩ := List.exists_mem_of_length_pos h
    simp only [List.mem_filter, beq_iff_eq] at hx
    have : x = s := by omega
    exact this ▸ hx.1
  · intro h
    have : s ∈ (secs p).filter (fun y : Nat => ((y : Int) == (s : Int))) := by simp [List.mem_filter, h]
    have := List.length_pos_of_mem this
    omega

set_option maxHeartbeats 400000 in
theorem flanked_any (v : Value) (L : Lay) (s : Nat) (w : World) (h : RPlan w v L) :
    Calls Tryz.prog 169 #[v, .int .i64 s] w fun e w' => e = .returned (.bool (L.flankedB s)) ∧ Below w.heap.size w w' := by
  obtain ⟨vh, vr, vt, rfl, -, hR, -⟩ := h
  obtain ⟨ao, cap, rfl, h1, h2, h3⟩ := SlAt.open hR
  clear hR
  unfold maxLen at h2
  go_enter Tryz.func169, Tryz.ntmps169
  go_wp2
  go_loopw [5] (fun i wr => ∃ k : Nat, k ≤ L.rts.length ∧ i = .int .i64 k ∧ (L.rts.take k).any (fun r => has r.flank s) = false ∧
      Below (w.heap.size + 1) (w.alloc (planBox L vh (.slice ao L.rts.length cap) vt)) wr) (fun i _ => L.rts.length - (intOf i).toNat)
  case atStart => exact ⟨0, Nat.zero_le _, rfl, rfl, Below.refl _ _⟩
  case round =>
    obtain ⟨k, hk, rfl, hz, hb⟩ := hrel
    have HZ := hide hz
    have HB := hide hb
    obtain ⟨q0, q1, q2, q3, q4, q5, qs⟩ := plan_cells hb
    clear hz
    by_cases hlt : k < L.rts.length
    · have HA := hide (any_take (fun r => has r.flank s) L.rts k hlt)
      obtain ⟨g, off, hao, hg, cs, -, hC, hc⟩ := h3 k hlt
      subst hao
      obtain ⟨vp, vs, vf, vl, rfl, -, -, hF, -⟩ := hC
      have hc1 := hc 3 (by omega)
      rw [← (box_below hb).cell (p := ⟨g, _, none⟩) hg] at hc1
      have HF := hide (Ints.below hF (box_below hb))
      obtain ⟨ao2, cap2, rfl, g1, g2, -⟩ := SlAt.open hF
      have HT := hide (times_has L.rts[k].flank s)
      clear hc h3 hF hb
      simp at hc1
      go_wp2_with (go_at_call 155; refine (times_any _ _ _ _ (unhide HF)).mono ?_; rintro e w' ⟨rfl, rfl⟩)
      · have ht : 0 < timesZ (secs L.rts[k].flank) s := by assumption
        have hs := hide (show L.flankedB s = true by
          rw [Lay.flankedB, List.any_eq_true]
          exact ⟨L.rts[k], List.getElem_mem hlt, by rw [← unhide HT]; simpa using ht⟩)
        have hb3 := box_below (unhide HB)
        go_ret
        exact ⟨ret_bool (unhide hs).symm, hb3⟩
      · have ht : timesZ (secs L.rts[k].flank) s ≤ 0 := by assumption
        have hs : has L.rts[k].flank s = false := by rw [← unhide HT, decide_eq_false_iff_not]; omega
        exact ⟨⟨k + 1, by omega, by go_num, by rw [unhide HA, unhide HZ, hs]; rfl, unhide HB⟩, by simp [intOf]; omega⟩
    · have hs := hide (show L.flankedB s = false by rw [Lay.flankedB, ← (unhide HZ), List.take_of_length_le (by omega)])
      have hb3 := box_below (unhide HB)
      clear hb
      go_wp2
      go_ret
      exact ⟨ret_bool (unhide hs).symm, hb3⟩
end Go.Proofs.YtkbpocecbcaiiaaGreatDoor

/-
  THE WALKS OVER railsref.with.
-/
namespace Go.Proofs.YtkbpocecbcaiiaaGreatDoor
open Go.RowKit

theorem Tryz.infoInt : (Tryz.prog.info? 3).map (fun i => (i.zero, i.size, i.bytes)) = some (some (.int .i64 0), 1, 8) := by kernel_rfl

theorem set_take (l : List Nat) (t n k : Nat) (h : k < l.length) : (l.set t n).take (k + 1) = (l.set t n).take k ++ [if k = t then n else l[k]] := by
  rw [List.take_succ_eq_append_getElem (by simpa using h)]
  by_cases hk : k = t
  · subst hk; simp
  · rw [if_neg hk, List.getElem_set_ne (Ne.symm hk)]

set_option maxHeartbeats 400000 in
theorem with_any (v : Value) (l : List Nat) (t n : Nat) (w : World) (h : Ints w v l) (hl : l.length ≤ 1000) :
    Calls Tryz.prog 108 #[v, .int .i64 t, .int .i64 n] w fun e w' => ∃ v', e = .returned v' ∧ Ints w' v' (l.set t n) ∧ Below w.heap.size w w' := by
  obtain ⟨ao, cap, rfl, h1, h2, h3⟩ := SlAt.open h
  clear h
  unfold maxLen at h2
  obtain ⟨i0, hi, hz0, hz1, hz2⟩ := info_parts Tryz.infoInt
  go_enter Tryz.func108, Tryz.ntmps108
  go_wp2
  go_loopw [7, 8] (fun r i wr => ∃ k : Nat, k ≤ l.length ∧ i = .int .i64 k ∧ wr.ownsRow w.heap.size 3 1 r k (intsV ((l.set t n).take k)) ∧
      Below w.heap.size w wr) (fun _ i _ => l.length - (intOf i).toNat)
  case atStart => exact ⟨0, Nat.zero_le _, rfl, World.ownsRow_nil _ _ _ _, Below.refl _ _⟩
  case round =>
    obtain ⟨k, hk, rfl, hown, hb⟩ := hrel
    have hsz := hb.size
    obtain ⟨p, hp⟩ : ∃ p, p = (l.set t n).take k := ⟨_, rfl⟩
    rw [← hp] at hown
    have HP := hide hp
    clear hp
    by_cases hlt : k < l.length
    · obtain ⟨g, off, hao, hg, cs, -, hC, hc⟩ := h3 k hlt
      subst hao
      unfold CInt at hC
      subst hC
      have hc0 := hc 0 (by omega)
      rw [← hb.cell (p := ⟨g, _, none⟩) hg] at hc0
      have HS := hide (set_take l t n k hlt)
      clear hc h3
      simp at hc0
      have HB := hide hb
      clear hb
      by_cases hkt : k = t
      · subst hkt
        go_wp2_with (at_builtin; refine wpList_append_own _ rfl _ _ 50 rfl w.heap.size 3 i0 (.int .i64 0) 1 8 Tryz.underlying50 hi hz0 hz1 hz2 rfl (by decide) _ _ _ rfl (hown.alloc _) ⟨wr.heap.size, 0, none⟩ 1 1 [.int .i64 n] rfl rfl (one_new _ _ _) (one_cell1 rfl) (by unfold maxLen; omega) (by omega) (by simp; omega) ?_; intro v' w1 hown' hgrow _)
        have hb' := grow_below (unhide HB) (by omega) hown hgrow
        clear hgrow hown
        go_wp2
        exact ⟨⟨k + 1, by omega, by go_num, by rw [unhide HS, if_pos rfl, ← unhide HP, intsV_snoc]; exact hown', hb'⟩, by simp [intOf]; omega⟩
      · have hkt' : ((k : Int) == (t : Int)) = false := by simp; omega
        go_wp2_with (at_builtin; refine wpList_append_own _ rfl _ _ 50 rfl w.heap.size 3 i0 (.int .i64 0) 1 8 Tryz.underlying50 hi hz0 hz1 hz2 rfl (by decide) _ _ _ rfl (hown.alloc _) ⟨wr.heap.size, 0, none⟩ 1 1 [.int .i64 (l[k] : Nat)] rfl rfl (one_new _ _ _) (one_cell1 rfl) (by unfold maxLen; omega) (by omega) (by simp; omega) ?_; intro v' w1 hown' hgrow _)
        have hb' := grow_below (unhide HB) (by omega) hown hgrow
        clear hgrow hown
        go_wp2
        exact ⟨⟨k + 1, by omega, by go_num, by rw [unhide HS, if_neg hkt, ← unhide HP, intsV_snoc]; exact hown', hb'⟩, by simp [intOf]; omega⟩
    · have hn : k = l.length := by omega
      subst hn
      have hfin := hide (Ints.ofOwn hown (by rw [unhide HP]; simp))
      rw [unhide HP, List.take_of_length_le (by simp)] at hfin
      clear h3 hown HP
      go_wp2
      go_ret
      exact ⟨u7, rfl, unhide hfin, hb⟩
end Go.Proofs.YtkbpocecbcaiiaaGreatDoor

/-
  THE WALK OVER railsref.holds.
-/
namespace Go.Proofs.YtkbpocecbcaiiaaGreatDoor
open Go.RowKit

def optZ : Option Nat → Int
  | none => -1
  | some s => s

theorem tn_eq (L : Lay) (t : Nat) (h : t < L.tns.length) : L.tn t = L.tns[t] := by
  simp [Lay.tn, List.getD_eq_getElem?_getD, List.getElem?_eq_getElem h]
theorem getD_eq (l : List Nat) (t : Nat) (h : t < l.length) : l.getD t 0 = l[t] := by
  simp [List.getD_eq_getElem?_getD, List.getElem?_eq_getElem h]

set_option maxHeartbeats 400000 in
theorem holds_any (v va : Value) (L : Lay) (at_ : List Nat) (t : Nat) (w : World) (h : RPlan w v L) (ha : Ints w va at_) (ht : t < at_.length) (hl : at_.length = L.tns.length) (hp : L.Paths) (hj : L.Jnys) :
    Calls Tryz.prog 154 #[v, va, .int .i64 t] w fun e w' => e = .returned (.int .i64 (optZ (L.holds at_ t))) ∧ Below w.heap.size w w' := by
  have HR := hide h
  obtain ⟨vh, vr, vt, rfl, -, -, hT⟩ := h
  obtain ⟨ao, cap, rfl, h1, h2, h3⟩ := SlAt.open hT
  obtain ⟨g, off, rfl, hg, cs, -, hC, hc⟩ := h3 t (by omega)
  obtain ⟨vj, rfl, hJ⟩ := hC
  have hc0 := hc 0 (by omega)
  have hc1 := hc 1 (by omega)
  obtain ⟨aoj, capj, rfl, j1, j2, j3⟩ := SlAt.open hJ
  obtain ⟨aoa, capa, rfl, a1, a2, a3⟩ := SlAt.open ha
  obtain ⟨ga, offa, rfl, hga, cs2, -, hC2, hd⟩ := a3 t ht
  unfold CInt at hC2
  subst hC2
  have hd0 := hd 0 (by omega)
  have htL : t < L.tns.length := by omega
  have hspec : L.holds at_ t = if L.tns[t].jny.length ≤ at_[t] then none else if at_[t] = 0 then some L.tns[t].start else some (L.endOf (L.tns[t].jny.getD (at_[t] - 1) 0)) := by
    simp only [Lay.holds, Lay.doneB, tn_eq L t htL, getD_eq at_ t ht, decide_eq_true_eq]
  rw [hspec]
  have hjn : ∀ r, r ∈ L.tns[t].jny → r < L.rts.length := hj _ (List.getElem_mem htL)
  clear hc hd a3 h3 hT hJ ha hspec hj
  generalize hzz : optZ _ = z
  unfold maxLen at h2 j2 a2
  generalize L.tns[t].jny = jl at *
  generalize L.tns[t].start = st at *
  generalize at_[t] = n at *
  simp at hc0 hc1 hd0
  by_cases hdone : jl.length ≤ n
  · have HZ := hide (show z = -1 by rw [← hzz, if_pos hdone]; rfl)
    clear hzz
    go_enter Tryz.func154, Tryz.ntmps154
    go_wp2
    go_ret
    exact ⟨ret_int (unhide HZ).symm, below_alloc _ _⟩
  by_cases hz : n = 0
  · have HZ := hide (show z = st by rw [← hzz, if_neg hdone, if_pos hz]; rfl)
    have hz' : ((n : Int) == 0) = true := by simp; omega
    have hdone' : n < jl.length := by omega
    clear hzz hz hdone
    go_enter Tryz.func154, Tryz.ntmps154
    go_wp2
    go_ret
    exact ⟨ret_int (unhide HZ).symm, below_alloc _ _⟩
  · obtain ⟨m, rfl⟩ : ∃ m, n = m + 1 := ⟨n - 1, by omega⟩
    have hk : m < jl.length := by omega
    obtain ⟨gj, offj, rfl, hgj, cs3, -, hC3, he⟩ := j3 m hk
    unfold CInt at hC3
    subst hC3
    have he0 := he 0 (by omega)
    simp at he0
    have hjr := hjn _ (List.getElem_mem hk)
    have HZ := hide (show z = L.endOf jl[m] by rw [← hzz, if_neg hdone, if_neg hz, Nat.add_sub_cancel, getD_eq jl m hk]; rfl)
    clear hzz
    generalize jl[m] = r at *
    have hz' : (((m + 1 : Nat) : Int) == 0) = false := by simp; omega
    have hdone' : m + 1 < jl.length := by omega
    clear he j3 hjn hdone hz
    simp only [Int.natCast_add, Int.natCast_one] at hd0 hz'
    have hlo : (0 : Int) ≤ (m : Int) := by omega
    have hhi : (m : Int) < jl.length := by omega
    go_enter Tryz.func154, Tryz.ntmps154
    go_wp2
    have hw1 : IntKind.i64.wrap (m : Int) = m := Go.IntWalk.i64_in _ (by omega)
    go_region_with (go_at_call 170; refine (End_any _ L r _ ((unhide HR).below (by exact (below_alloc _ _).drew)) hjr hp).mono ?_; rintro e w' ⟨rfl, hb'⟩)
    all_goals
      have hb3 := ((below_alloc w (planBox L vh vr (.slice (some ⟨g, off, none⟩) L.tns.length cap))).drew).trans (hb'.mono (B' := w.heap.size) (by simp))
      go_wp2
      go_ret
      exact ⟨ret_int (unhide HZ).symm, hb3⟩
end Go.Proofs.YtkbpocecbcaiiaaGreatDoor

/-
  THE WALK OVER railsref.runs.
-/
namespace Go.Proofs.YtkbpocecbcaiiaaGreatDoor
open Go.RowKit

theorem all_drop_true {α : Type} (p : α → Bool) (l : List α) (n : Nat) (h : ∀ q (hq : q < l.length), n ≤ q → p l[q] = true) : (l.drop n).all p = true := by
  rw [List.all_eq_true]
  intro x hx
  obtain ⟨i, hi, rfl⟩ := List.getElem_of_mem hx
  rw [List.getElem_drop]
  exact h _ _ (by omega)
theorem all_drop_false {α : Type} (p : α → Bool) (l : List α) (n q : Nat) (hq : q < l.length) (hn : n ≤ q) (h : p l[q] = false) : (l.drop n).all p = false := by
  rw [List.all_eq_false]
  refine ⟨l[q], ?_, by simp [h]⟩
  rw [List.mem_iff_getElem]
  exact ⟨q - n, by simp; omega, by rw [List.getElem_drop]; congr 1; omega⟩
theorem all_range_true (p : Nat → Bool) (n : Nat) (h : ∀ o, o < n → p o = true) : (List.range n).all p = true := by
  rw [List.all_eq_true]; intro x hx; exact h x (List.mem_range.1 hx)
theorem all_range_false (p : Nat → Bool) (n o : Nat) (ho : o < n) (h : p o = false) : (List.range n).all p = false := by
  rw [List.all_eq_false]; exact ⟨o, List.mem_range.2 ho, by simp [h]⟩
theorem times_hits (p : List Nat) (o : Option Nat) : decide (0 < timesZ p (optZ o)) = hits p o := by
  cases o with
  | none =>
    have : timesZ p (optZ none) = 0 := by
      unfold timesZ optZ
      have : p.filter (fun y : Nat => ((y : Int) == (-1 : Int))) = [] := by
        rw [List.filter_eq_nil_iff]; intro y _; simp
      rw [this]; rfl
    rw [this]; rfl
  | some s =>
    have := times_has (p.map (fun x => (x, 0))) s
    have e : secs (p.map (fun x => (x, 0))) = p := by simp [secs, Function.comp_def]
    rw [has, e] at this
    exact this

set_option maxHeartbeats 1000000 in
theorem runs_any (v va : Value) (L : Lay) (at_ : List Nat) (t : Nat) (w : World) (h : RPlan w v L) (ha : Ints w va at_) (ht : t < at_.length) (hl : at_.length = L.tns.length) (hp : L.Paths) (hj : L.Jnys) :
    Calls Tryz.prog 107 #[v, va, .int .i64 t] w fun e w' => e = .returned (.bool (L.runsB at_ t)) ∧ Below w.heap.size w w' := by
  have HR := hide h
  have HA := hide ha
  obtain ⟨vh, vr, vt, rfl, -, hRt, hT⟩ := h
  obtain ⟨ao, cap, rfl, h1, h2, h3⟩ := SlAt.open hT
  obtain ⟨g, off, rfl, hg, cs, -, hC, hc⟩ := h3 t (by omega)
  obtain ⟨vj, rfl, hJ⟩ := hC
  have hc1 := hc 1 (by omega)
  obtain ⟨aoj, capj, rfl, j1, j2, j3⟩ := SlAt.open hJ
  obtain ⟨aoa, capa, rfl, a1, a2, a3⟩ := SlAt.open ha
  obtain ⟨ga, offa, rfl, hga, cs2, -, hC2, hd⟩ := a3 t ht
  unfold CInt at hC2
  subst hC2
  have hd0 := hd 0 (by omega)
  obtain ⟨aor, capr, rfl, r1, r2, r3⟩ := SlAt.open hRt
  have htL : t < L.tns.length := by omega
  have hspec : L.runsB at_ t = (L.tns[t].jny.drop at_[t]).all (fun r => (List.range at_.length).all (fun o => o == t || !hits (secs (L.rt r).path) (L.holds at_ o))) := by
    simp only [Lay.runsB, tn_eq L t htL, getD_eq at_ t ht]
  rw [hspec]
  have hjn : ∀ r, r ∈ L.tns[t].jny → r < L.rts.length := hj _ (List.getElem_mem htL)
  have HJ := hide hj
  have HL := hide hl
  have HP := hide hp
  clear hc hd a3 h3 hT hJ ha hspec hj hRt hp
  unfold maxLen at h2 j2 a2 r2
  generalize L.tns[t].jny = jl at *
  generalize at_[t] = n at *
  generalize hzz : List.all _ _ = z
  have HZ := hide hzz
  simp at hc1 hd0
  clear hzz hl
  go_enter Tryz.func107, Tryz.ntmps107
  go_wp2
  go_loopw [8] (fun i wr => ∃ q : Nat, i = .int .i64 q ∧ n ≤ q ∧ (q = n ∨ q ≤ jl.length) ∧
      (∀ q' (hq : q' < jl.length), n ≤ q' → q' < q → (List.range at_.length).all (fun o => o == t || !hits (secs (L.rt jl[q']).path) (L.holds at_ o)) = true) ∧
      Below (w.heap.size + 1) (w.alloc (planBox L vh (.slice aor L.rts.length capr) (.slice (some ⟨g, off, none⟩) L.tns.length cap))) wr) (fun i _ => jl.length - (intOf i).toNat)
  case atStart => exact ⟨n, rfl, Nat.le_refl _, .inl rfl, fun q' _ h1 h2 => by omega, Below.refl _ _⟩
  case round =>
    obtain ⟨q, rfl, hnq, hq, hz, hb⟩ := hrel
    have HK := hide hq
    have HQ := hide hz
    have HB := hide hb
    obtain ⟨q0, q1, q2, q3, q4, q5, qs⟩ := plan_cells hb
    clear hz hq
    by_cases hlt : q < jl.length
    · obtain ⟨gj, offj, hao, hgj, cs3, -, hC3, he⟩ := j3 q hlt
      subst hao
      unfold CInt at hC3
      subst hC3
      have he0 := he 0 (by omega)
      rw [← (box_below hb).cell (p := ⟨gj, _, none⟩) hgj] at he0
      have hjr := hjn _ (List.getElem_mem hlt)
      obtain ⟨gr, offr, hao, hgr, cs4, -, hC4, hf⟩ := r3 _ hjr
      subst hao
      obtain ⟨vp, vs, vf, vl, rfl, hPt, -, -, -⟩ := hC4
      have hf1 := hf 1 (by omega)
      rw [← (box_below hb).cell (p := ⟨gr, _, none⟩) hgr] at hf1
      have HPT := hide (show Ints w vp _ from hPt)
      obtain ⟨aop, capp, rfl, p1, p2, -⟩ := SlAt.open hPt
      have HRT := hide (rt_eq L _ hjr)
      clear hPt hf he j3 r3 hb
      simp at he0 hf1
      generalize hrr : jl[q] = r at *
      have HRR := hide hrr
      clear hrr
      go_wp2
      go_quiet (fail)
      go_wp2
      go_loopw [10] (fun i wr => ∃ o : Nat, i = .int .i64 o ∧ o ≤ at_.length ∧
          (∀ o', o' < o → (o' == t || !hits (secs (L.rt r).path) (L.holds at_ o')) = true) ∧
          Below (w.heap.size + 1) (w.alloc (planBox L vh (.slice (some ⟨gr, offr, none⟩) L.rts.length capr) (.slice (some ⟨g, off, none⟩) L.tns.length cap))) wr) (fun i _ => at_.length - (intOf i).toNat)
      case atStart => exact ⟨0, rfl, Nat.zero_le _, fun o' h => by omega, below_drewN (unhide HB) _⟩
      case round =>
        clear q0 q1 q2 q3 q4 q5 qs he0 hf1 HB
        obtain ⟨o, rfl, ho, hz, hb⟩ := hrel
        have HO := hide hz
        have HB := hide hb
        obtain ⟨q0, q1, q2, q3, q4, q5, qs⟩ := plan_cells hb
        clear hz hb
        by_cases hol : o < at_.length
        · have HT := hide (times_hits (secs L.rts[r].path) (L.holds at_ o))
          rw [← unhide HRT] at HT
          by_cases hot : o = t
          · have hot' : ((o : Int) != (t : Int)) = false := by simp; omega
            have HOT := hide hot
            clear hot
            go_wp2_with (first
              | (go_at_call 154; refine (holds_any _ _ L at_ o _ ((unhide HR).below (box_below (unhide HB))) ((unhide HA).below (box_below (unhide HB))) hol (unhide HL) (unhide HP) (unhide HJ)).mono ?_; rintro e w' ⟨rfl, hb'⟩)
              | (go_at_call 155; refine (times_any _ _ _ _ ((unhide HPT).below ((box_below (unhide HB)).trans (hb'.mono (Nat.le_of_lt qs))))).mono ?_; rintro e w' ⟨rfl, rfl⟩))
            have hb4 := (unhide HB).trans (hb'.mono (B' := w.heap.size + 1) qs)
            refine ⟨⟨o + 1, by go_num, by omega, fun o' h => ?_, hb4⟩, by simp [intOf]; omega⟩
            rcases Nat.lt_or_ge o' o with h' | h'
            · exact unhide HO o' h'
            · obtain rfl : o' = t := by have := unhide HOT; omega
              simp
          · have hot' : ((o : Int) != (t : Int)) = true := by simp; omega
            have HOT := hide hot
            clear hot
            go_wp2_with (first
              | (go_at_call 154; refine (holds_any _ _ L at_ o _ ((unhide HR).below (box_below (unhide HB))) ((unhide HA).below (box_below (unhide HB))) hol (unhide HL) (unhide HP) (unhide HJ)).mono ?_; rintro e w' ⟨rfl, hb'⟩)
              | (go_at_call 155; refine (times_any _ _ _ _ ((unhide HPT).below ((box_below (unhide HB)).trans (hb'.mono (Nat.le_of_lt qs))))).mono ?_; rintro e w' ⟨rfl, rfl⟩))
            · have hti : 0 < timesZ (secs L.rts[r].path) (optZ (L.holds at_ o)) := by assumption
              have hs := hide (show z = false by
                rw [← unhide HZ]
                refine all_drop_false _ _ _ q hlt hnq ?_
                refine all_range_false _ _ o hol ?_
                rw [unhide HRR, ← unhide HT, unhide HRT]
                simp [unhide HOT, hti])
              have hb3 := box_below ((unhide HB).trans (hb'.mono (B' := w.heap.size + 1) qs))
              go_ret
              exact ⟨ret_bool (unhide hs).symm, hb3⟩
            · have hti : timesZ (secs L.rts[r].path) (optZ (L.holds at_ o)) ≤ 0 := by assumption
              have hb4 := (unhide HB).trans (hb'.mono (B' := w.heap.size + 1) qs)
              refine ⟨⟨o + 1, by go_num, by omega, fun o' h => ?_, hb4⟩, by simp [intOf]; omega⟩
              rcases Nat.lt_or_ge o' o with h' | h'
              · exact unhide HO o' h'
              · obtain rfl : o' = o := by omega
                rw [← unhide HT, unhide HRT]
                simp; omega
        · go_wp2
          have hb4 := unhide HB
          refine ⟨⟨q + 1, by go_num, by omega, .inr (by omega), fun q' hq' h1' h2' => ?_, hb4⟩, by simp [intOf]; omega⟩
          rcases Nat.lt_or_ge q' q with h' | h'
          · exact unhide HQ q' hq' h1' h'
          · obtain rfl : q' = q := by omega
            rw [unhide HRR]
            exact all_range_true _ _ (fun o' ho' => unhide HO o' (by omega))
    · have hs := hide (show z = true by
        rw [← unhide HZ]
        exact all_drop_true _ _ _ (fun q' hq' hn => unhide HQ q' hq' hn (by omega)))
      have hb3 := box_below (unhide HB)
      go_wp2
      go_ret
      exact ⟨ret_bool (unhide hs).symm, hb3⟩
end Go.Proofs.YtkbpocecbcaiiaaGreatDoor

/-
  THE WALK OVER railsref.sound.
-/
namespace Go.Proofs.YtkbpocecbcaiiaaGreatDoor
open Go.RowKit

def Lay.undone (L : Lay) (at_ : List Nat) : Nat := ((List.range at_.length).filter (fun t => !L.doneB at_ t)).length

theorem filter_lt_of (p q : Nat → Bool) (l : List Nat) (h : ∀ x, x ∈ l → q x = true → p x = true) (t : Nat) (ht : t ∈ l) (hp : p t = true) (hq : q t = false) :
    (l.filter q).length < (l.filter p).length := by
  induction l with
  | nil => cases ht
  | cons a l ih =>
    have hle : ∀ l : List Nat, (∀ x, x ∈ l → q x = true → p x = true) → (l.filter q).length ≤ (l.filter p).length := by
      intro l
      induction l with
      | nil => intro _; simp
      | cons b l ih2 =>
        intro h
        have := ih2 (fun x hx => h x (List.mem_cons_of_mem _ hx))
        by_cases hb : q b = true
        · have := h b (List.mem_cons_self ..) hb
          simp [hb, this]; omega
        · by_cases hb' : p b = true <;> simp [hb, hb'] <;> omega
    by_cases ha : a = t
    · subst ha
      have := hle l (fun x hx => h x (List.mem_cons_of_mem _ hx))
      simp [hp, hq]; omega
    · have := ih (fun x hx => h x (List.mem_cons_of_mem _ hx)) (by simpa [Ne.symm ha] using ht)
      by_cases hb : q a = true
      · have := h a (List.mem_cons_self ..) hb
        simp [hb, this]; omega
      · by_cases hb' : p a = true <;> simp [hb, hb'] <;> omega

theorem done_with (L : Lay) (at_ : List Nat) (t x : Nat) (ht : t < at_.length) : L.doneB (L.withN at_ t) x = if x = t then true else L.doneB at_ x := by
  unfold Lay.doneB Lay.withN
  by_cases h : x = t
  · subst h; simp [List.getD_eq_getElem?_getD, ht]
  · simp [h, List.getD_eq_getElem?_getD, Ne.symm h]
theorem undone_with (L : Lay) (at_ : List Nat) (t : Nat) (ht : t < at_.length) (hd : L.doneB at_ t = false) : L.undone (L.withN at_ t) < L.undone at_ := by
  unfold Lay.undone
  have hl : (L.withN at_ t).length = at_.length := by simp [Lay.withN]
  rw [hl]
  refine filter_lt_of _ _ _ ?_ t (List.mem_range.2 ht) (by simp [hd]) ?_
  · intro x _
    rw [done_with L at_ t x ht]
    by_cases h : x = t <;> simp [h]
  · rw [done_with L at_ t t ht]; simp
theorem undone_pos (L : Lay) (at_ : List Nat) (t : Nat) (ht : t < at_.length) (hd : L.doneB at_ t = false) : 0 < L.undone at_ := by
  unfold Lay.undone
  exact List.length_pos_of_mem (a := t) (by simp [List.mem_filter, ht, hd])

theorem soundF_true (L : Lay) (f : Nat) (at_ : List Nat) (t : Nat) (ht : t < at_.length) (hd : L.doneB at_ t = false) (hr : L.runsB at_ t = true) (hs : L.soundF f (L.withN at_ t) = true) : L.soundF (f + 1) at_ = true := by
  simp only [Lay.soundF, Bool.or_eq_true, List.any_eq_true]
  exact .inr ⟨t, List.mem_range.2 ht, by simp [hd, hr, hs]⟩
theorem soundF_end (L : Lay) (f : Nat) (at_ : List Nat) (h : ∀ t, t < at_.length → L.doneB at_ t = true ∨ ∀ f', f = f' + 1 → (L.runsB at_ t && L.soundF f' (L.withN at_ t)) = false) : L.soundF f at_ = L.allDone at_ := by
  cases f with
  | zero => rfl
  | succ f =>
    simp only [Lay.soundF]
    have : (List.range at_.length).any (fun t => !L.doneB at_ t && L.runsB at_ t && L.soundF f (L.withN at_ t)) = false := by
      rw [List.any_eq_false]
      intro t ht
      rcases h t (List.mem_range.1 ht) with h | h
      · simp [h]
      · have := h f rfl
        rw [Bool.and_assoc, this]; simp
    rw [this, Bool.or_false]
theorem all_range_succ (p : Nat → Bool) (n : Nat) : (List.range (n + 1)).all p = ((List.range n).all p && p n) := by
  rw [List.range_succ, List.all_append]; simp

/-- the contract of sound, with f rounds of trust. -/
def SoundAt (L : Lay) (f : Nat) : Prop := ∀ (v va : Value) (at_ : List Nat) (w : World), RPlan w v L → Ints w va at_ → at_.length = L.tns.length → L.undone at_ ≤ f →
    Calls Tryz.prog 106 #[v, va] w fun e w' => e = .returned (.bool (L.soundF f at_)) ∧ Below w.heap.size w w'

set_option maxHeartbeats 1000000 in
theorem sound_step (L : Lay) (f : Nat) (hp : L.Paths) (hj : L.Jnys) (hsm : L.tns.length ≤ 1000) (IH : ∀ f', f = f' + 1 → SoundAt L f') : SoundAt L f := by
  intro v va at_ w h ha hl hu
  have HR := hide h
  have HA := hide ha
  obtain ⟨vh, vr, vt, rfl, -, -, hT⟩ := h
  obtain ⟨ao, cap, rfl, h1, h2, h3⟩ := SlAt.open hT
  obtain ⟨aoa, capa, rfl, a1, a2, a3⟩ := SlAt.open ha
  have HL := hide hl
  have HP := hide hp
  have HJ := hide hj
  have HI := hide IH
  have hsm2 : at_.length ≤ 1000 := by omega
  clear hT ha IH hp hj
  unfold maxLen at h2 a2
  generalize hzz : L.soundF f at_ = z
  have HZ := hide hzz
  clear hzz
  go_enter Tryz.func106, Tryz.ntmps106
  go_wp2
  go_loopw [5, 6] (fun b i wr => ∃ t : Nat, i = .int .i64 t ∧ t ≤ at_.length ∧ b = .bool ((List.range t).all (fun t => L.doneB at_ t)) ∧
      (∀ t', t' < t → L.doneB at_ t' = true ∨ ∀ f', f = f' + 1 → (L.runsB at_ t' && L.soundF f' (L.withN at_ t')) = false) ∧
      Below (w.heap.size + 1) (w.alloc (planBox L vh vr (.slice ao L.tns.length cap))) wr) (fun _ i _ => at_.length - (intOf i).toNat)
  case atStart => exact ⟨0, rfl, Nat.zero_le _, rfl, fun t' h => by omega, Below.refl _ _⟩
  case round =>
    obtain ⟨t, rfl, htl, rfl, hz, hb⟩ := hrel
    have HQ := hide hz
    have HB := hide hb
    obtain ⟨q0, q1, q2, q3, q4, q5, qs⟩ := plan_cells hb
    clear hz
    have HAS := hide (all_range_succ (fun t => L.doneB at_ t) t)
    generalize hall : (List.range t).all (fun t => L.doneB at_ t) = ball
    have HALL := hide hall
    clear hall
    by_cases hlt : t < at_.length
    · have htL : t < L.tns.length := by omega
      obtain ⟨g, off, hao, hg, cs, -, hC, hc⟩ := h3 t htL
      subst hao
      obtain ⟨vj, rfl, hJ⟩ := hC
      have hc1 := hc 1 (by omega)
      rw [← (box_below hb).cell (p := ⟨g, _, none⟩) hg] at hc1
      obtain ⟨aoj, capj, rfl, j1, j2, -⟩ := SlAt.open hJ
      obtain ⟨ga, offa, hao, hga, cs2, -, hC2, hd⟩ := a3 t hlt
      subst hao
      unfold CInt at hC2
      subst hC2
      have hd0 := hd 0 (by omega)
      rw [← (box_below hb).cell (p := ⟨ga, _, none⟩) hga] at hd0
      have HD := hide (show L.doneB at_ t = decide (L.tns[t].jny.length ≤ at_[t]) by simp only [Lay.doneB, tn_eq L t htL, getD_eq at_ t hlt])
      have HW := hide (show L.withN at_ t = at_.set t L.tns[t].jny.length by simp only [Lay.withN, tn_eq L t htL])
      simp at hc1 hd0
      clear hc hd h3 a3 hJ hb hl
      unfold maxLen at j2
      generalize L.tns[t].jny = jl at *
      generalize at_[t] = n at *
      by_cases hdone : jl.length ≤ n
      · have hdt := hide (show L.doneB at_ t = true by rw [unhide HD]; simpa using hdone)
        go_wp2
        refine ⟨⟨t + 1, by go_num, by omega, by rw [unhide HAS, unhide HALL, unhide hdt, Bool.and_true], fun t' h => ?_, unhide HB⟩, by simp [intOf]; omega⟩
        rcases Nat.lt_or_ge t' t with h' | h'
        · exact unhide HQ t' h'
        · obtain rfl : t' = t := by omega
          exact .inl (unhide hdt)
      · have hdt := hide (show L.doneB at_ t = false by rw [unhide HD]; simpa using hdone)
        obtain ⟨f', hf'⟩ : ∃ f', f = f' + 1 := ⟨f - 1, by have := undone_pos L at_ t hlt (unhide hdt); omega⟩
        have hu' : L.undone (L.withN at_ t) ≤ f' := by have := undone_with L at_ t hlt (unhide hdt); omega
        have HF := hide hf'
        have HU := hide hu'
        clear hf' hu' hu
        cases hrun : L.runsB at_ t with
        | false =>
          have HRUN := hide hrun
          clear hrun
          go_wp2_with (go_at_call 107; refine (runs_any _ _ L at_ t _ ((unhide HR).below (box_below (unhide HB))) ((unhide HA).below (box_below (unhide HB))) hlt (unhide HL) (unhide HP) (unhide HJ)).mono ?_; rw [unhide HRUN]; rintro e w' ⟨rfl, hb'⟩)
          have hb4 := (unhide HB).trans (hb'.mono (B' := w.heap.size + 1) qs)
          refine ⟨⟨t + 1, by go_num, by omega, by rw [unhide HAS, unhide hdt, Bool.and_false], fun t' h => ?_, hb4⟩, by simp [intOf]; omega⟩
          rcases Nat.lt_or_ge t' t with h' | h'
          · exact unhide HQ t' h'
          · obtain rfl : t' = t := by omega
            exact .inr (fun _ _ => by rw [unhide HRUN, Bool.false_and])
        | true =>
          have HRUN := hide hrun
          clear hrun
          go_wp2_with (go_at_call 107; refine (runs_any _ _ L at_ t _ ((unhide HR).below (box_below (unhide HB))) ((unhide HA).below (box_below (unhide HB))) hlt (unhide HL) (unhide HP) (unhide HJ)).mono ?_; rw [unhide HRUN]; rintro e w' ⟨rfl, hb'⟩)
          have hb4 := (unhide HB).trans (hb'.mono (B' := w.heap.size + 1) qs)
          refine (with_any _ at_ t jl.length _ ((unhide HA).below (box_below hb4)) hsm2).mono ?_
          rintro e w2 ⟨v2, rfl, hI2, hb2⟩
          have hb5 := hb4.trans (hb2.mono (B' := w.heap.size + 1) (by have := hb'.size; omega))
          have HB5 := hide hb5
          clear q0 q1 q2 q3 q4 q5 qs hc1 hd0 hb4
          obtain ⟨q0, q1, q2, q3, q4, q5, qs⟩ := plan_cells hb5
          have HI2 := hide hI2
          clear hb5 hI2 hb2 hb'
          rw [← unhide HW] at HI2
          cases hs : L.soundF f' (L.withN at_ t) with
          | false =>
            have HS := hide hs
            clear hs
            go_wp2_with (go_at_call 106; refine (unhide HI f' (unhide HF) _ v2 (L.withN at_ t) _ ((unhide HR).below (box_below (unhide HB5))) (unhide HI2) (by simpa [Lay.withN] using unhide HL) (unhide HU)).mono ?_; rw [unhide HS]; rintro e w' ⟨rfl, hb'⟩)
            have hb6 := (unhide HB5).trans (hb'.mono (B' := w.heap.size + 1) qs)
            refine ⟨⟨t + 1, by go_num, by omega, by rw [unhide HAS, unhide hdt, Bool.and_false], fun t' h => ?_, hb6⟩, by simp [intOf]; omega⟩
            rcases Nat.lt_or_ge t' t with h' | h'
            · exact unhide HQ t' h'
            · obtain rfl : t' = t := by omega
              refine .inr (fun f2 hf2 => ?_)
              obtain rfl : f2 = f' := by have := unhide HF; omega
              rw [unhide HS, Bool.and_false]
          | true =>
            have HS := hide hs
            clear hs
            go_wp2_with (go_at_call 106; refine (unhide HI f' (unhide HF) _ v2 (L.withN at_ t) _ ((unhide HR).below (box_below (unhide HB5))) (unhide HI2) (by simpa [Lay.withN] using unhide HL) (unhide HU)).mono ?_; rw [unhide HS]; rintro e w' ⟨rfl, hb'⟩)
            have hb6 := box_below ((unhide HB5).trans (hb'.mono (B' := w.heap.size + 1) qs))
            have hz := hide (show z = true by rw [← unhide HZ, unhide HF]; exact soundF_true L f' at_ t hlt (unhide hdt) (unhide HRUN) (unhide HS))
            go_ret
            exact ⟨ret_bool (unhide hz).symm, hb6⟩
    · obtain rfl : t = at_.length := by omega
      have hz := hide (show z = ball by rw [← unhide HZ, ← unhide HALL]; exact soundF_end L f at_ (unhide HQ))
      have hb6 := box_below (unhide HB)
      clear hb hl h3 a3
      go_wp2
      go_ret
      exact ⟨ret_bool (unhide hz).symm, hb6⟩

theorem sound_all (L : Lay) (hp : L.Paths) (hj : L.Jnys) (hsm : L.tns.length ≤ 1000) (f : Nat) : SoundAt L f := by
  induction f with
  | zero => exact sound_step L 0 hp hj hsm (fun f' h => by omega)
  | succ f ih =>
    refine sound_step L (f + 1) hp hj hsm (fun f' h => ?_)
    have e : f' = f := by omega
    rw [e]; exact ih
theorem undone_le (L : Lay) (at_ : List Nat) : L.undone at_ ≤ at_.length := by
  unfold Lay.undone
  have := List.length_filter_le (fun t => !L.doneB at_ t) (List.range at_.length)
  simpa using this
/-- sound: is a state safe? -/
theorem sound_any (v va : Value) (L : Lay) (at_ : List Nat) (w : World) (h : RPlan w v L) (ha : Ints w va at_) (hl : at_.length = L.tns.length) (hp : L.Paths) (hj : L.Jnys) (hsm : L.tns.length ≤ 1000) :
    Calls Tryz.prog 106 #[v, va] w fun e w' => e = .returned (.bool (L.sound at_)) ∧ Below w.heap.size w w' :=
  sound_all L hp hj hsm at_.length v va at_ w h ha hl (undone_le L at_)
end Go.Proofs.YtkbpocecbcaiiaaGreatDoor

/-
  THE WALKS OVER railsref.state, railsref.large.
-/
namespace Go.Proofs.YtkbpocecbcaiiaaGreatDoor
open Go.RowKit

set_option maxHeartbeats 1000000 in
theorem large_any (v : Value) (L : Lay) (w : World) (h : RPlan w v L) :
    Calls Tryz.prog 115 #[v] w fun e w' => e = .returned (.bool L.big) ∧ Below w.heap.size w w' := by
  obtain ⟨vh, vr, vt, rfl, hH, hR, hT⟩ := h
  obtain ⟨aoh, caph, rfl, h1, h2, -⟩ := SlAt.open hH
  obtain ⟨aor, capr, rfl, r1, r2, r3⟩ := SlAt.open hR
  obtain ⟨aot, capt, rfl, t1, t2, t3⟩ := SlAt.open hT
  clear hH hR hT
  unfold maxLen at h2 r2 t2
  generalize hzz : L.big = z
  have HZ := hide hzz
  clear hzz
  by_cases c1 : 16 < L.sw.length
  · have hz := hide (show z = true by rw [← unhide HZ]; simp [Lay.big, c1])
    have c1' : (16 : Int) < L.sw.length := by omega
    go_enter Tryz.func115, Tryz.ntmps115
    go_wp2
    go_ret
    exact ⟨ret_bool (unhide hz).symm, below_alloc _ _⟩
  by_cases c2 : 12 < L.rts.length
  · have hz := hide (show z = true by rw [← unhide HZ]; simp [Lay.big, c2])
    have c1' : ¬ (16 : Int) < L.sw.length := by omega
    go_enter Tryz.func115, Tryz.ntmps115
    go_wp2
    go_ret
    exact ⟨ret_bool (unhide hz).symm, below_alloc _ _⟩
  by_cases c3 : 5 < L.tns.length
  · have hz := hide (show z = true by rw [← unhide HZ]; simp [Lay.big, c3])
    go_enter Tryz.func115, Tryz.ntmps115
    go_wp2
    go_ret
    exact ⟨ret_bool (unhide hz).symm, below_alloc _ _⟩
  have HZ2 := hide (show z = (L.rts.any (fun r => decide (6 < r.path.length) || decide (4 < r.flank.length)) || L.tns.any (fun t => decide (8 < t.jny.length))) by rw [← unhide HZ]; simp [Lay.big, c1, c2, c3])
  clear HZ
  go_enter Tryz.func115, Tryz.ntmps115
  go_wp2
  go_loopw [3] (fun i wr => ∃ k : Nat, k ≤ L.rts.length ∧ i = .int .i64 k ∧ (L.rts.take k).any (fun r => decide (6 < r.path.length) || decide (4 < r.flank.length)) = false ∧
      Below (w.heap.size + 1) (w.alloc (planBox L (.slice aoh L.sw.length caph) (.slice aor L.rts.length capr) (.slice aot L.tns.length capt))) wr) (fun i _ => L.rts.length - (intOf i).toNat)
  case atStart => exact ⟨0, Nat.zero_le _, rfl, rfl, Below.refl _ _⟩
  case round =>
    obtain ⟨k, hk, rfl, hz, hb⟩ := hrel
    have HQ := hide hz
    have HB := hide hb
    obtain ⟨q0, q1, q2, q3, q4, q5, qs⟩ := plan_cells hb
    clear hz
    by_cases hlt : k < L.rts.length
    · have HA := hide (any_take (fun r : Rt => decide (6 < r.path.length) || decide (4 < r.flank.length)) L.rts k hlt)
      obtain ⟨g, off, hao, hg, cs, -, hC, hc⟩ := r3 k hlt
      subst hao
      obtain ⟨vp, vs, vf, vl, rfl, hP, -, hF, -⟩ := hC
      have hc1 := hc 1 (by omega)
      have hc3 := hc 3 (by omega)
      rw [← (box_below hb).cell (p := ⟨g, _, none⟩) hg] at hc1 hc3
      obtain ⟨aop, capp, rfl, p1, p2, -⟩ := SlAt.open hP
      obtain ⟨aof, capf, rfl, f1, f2, -⟩ := SlAt.open hF
      clear hc r3 t3 hP hF hb
      unfold maxLen at p2 f2
      simp [secs] at hc1 hc3
      have hmem : L.rts[k] ∈ L.rts := List.getElem_mem hlt
      have HM := hide (fun (h : (decide (6 < L.rts[k].path.length) || decide (4 < L.rts[k].flank.length)) = true) => show z = true by
        rw [unhide HZ2, List.any_eq_true.2 ⟨_, hmem, h⟩, Bool.true_or])
      clear hmem
      generalize L.rts[k].path = pp at *
      generalize L.rts[k].flank = ff at *
      simp [secs] at p1 f1
      by_cases d1 : 6 < pp.length
      · have hz := hide (unhide HM (by simp [d1]))
        have hb3 := box_below (unhide HB)
        have d1' : (6 : Int) < pp.length := by omega
        go_wp2
        go_ret
        exact ⟨ret_bool (unhide hz).symm, hb3⟩
      by_cases d2 : 4 < ff.length
      · have hz := hide (unhide HM (by simp [d2]))
        have hb3 := box_below (unhide HB)
        go_wp2
        go_ret
        exact ⟨ret_bool (unhide hz).symm, hb3⟩
      · go_wp2
        exact ⟨⟨k + 1, by omega, by go_num, by rw [unhide HA, unhide HQ]; simp; omega, unhide HB⟩, by simp [intOf]; omega⟩
    · have HZ3 := hide (show z = L.tns.any (fun t => decide (8 < t.jny.length)) by
        rw [unhide HZ2, ← Bool.false_or (L.tns.any _), ← unhide HQ, List.take_of_length_le (by omega)]; simp)
      clear HZ2 hb
      go_wp2
      go_loopw [4] (fun i wr => ∃ k : Nat, k ≤ L.tns.length ∧ i = .int .i64 k ∧ (L.tns.take k).any (fun t => decide (8 < t.jny.length)) = false ∧
          Below (w.heap.size + 1) (w.alloc (planBox L (.slice aoh L.sw.length caph) (.slice aor L.rts.length capr) (.slice aot L.tns.length capt))) wr) (fun i _ => L.tns.length - (intOf i).toNat)
      case atStart => exact ⟨0, Nat.zero_le _, rfl, rfl, unhide HB⟩
      case round =>
        clear HQ HB q0 q1 q2 q3 q4 q5 qs hk hlt
        obtain ⟨k, hk, rfl, hz, hb⟩ := hrel
        have HQ := hide hz
        have HB := hide hb
        obtain ⟨q0, q1, q2, q3, q4, q5, qs⟩ := plan_cells hb
        clear hz
        by_cases hlt : k < L.tns.length
        · have HA := hide (any_take (fun t : Tn => decide (8 < t.jny.length)) L.tns k hlt)
          obtain ⟨g, off, hao, hg, cs, -, hC, hc⟩ := t3 k hlt
          subst hao
          obtain ⟨vj, rfl, hJ⟩ := hC
          have hc1 := hc 1 (by omega)
          rw [← (box_below hb).cell (p := ⟨g, _, none⟩) hg] at hc1
          obtain ⟨aoj, capj, rfl, j1, j2, -⟩ := SlAt.open hJ
          clear hc r3 t3 hJ hb
          unfold maxLen at j2
          simp at hc1
          have hmem : L.tns[k] ∈ L.tns := List.getElem_mem hlt
          have HM := hide (fun (h : decide (8 < L.tns[k].jny.length) = true) => show z = true by
            rw [unhide HZ3]; exact List.any_eq_true.2 ⟨_, hmem, h⟩)
          clear hmem
          generalize L.tns[k].jny = jl at *
          by_cases d1 : 8 < jl.length
          · have hz := hide (unhide HM (by simp [d1]))
            have hb3 := box_below (unhide HB)
            go_wp2
            go_ret
            exact ⟨ret_bool (unhide hz).symm, hb3⟩
          · go_wp2
            exact ⟨⟨k + 1, by omega, by go_num, by rw [unhide HA, unhide HQ]; simp; omega, unhide HB⟩, by simp [intOf]; omega⟩
        · have hz := hide (show z = false by rw [unhide HZ3, ← unhide HQ, List.take_of_length_le (by omega)])
          have hb3 := box_below (unhide HB)
          clear hb
          go_wp2
          go_ret
          exact ⟨ret_bool (unhide hz).symm, hb3⟩
end Go.Proofs.YtkbpocecbcaiiaaGreatDoor

/-
  THE WALK OVER railsref.state.
-/
namespace Go.Proofs.YtkbpocecbcaiiaaGreatDoor
open Go.RowKit

theorem digs_take (s : ByteArray) (k : Nat) (h : k < s.size) : (digs s.data.toList).take (k + 1) = (digs s.data.toList).take k ++ [s[k].toNat - 48] := by
  rw [List.take_succ_eq_append_getElem (by simp [digs]; exact h)]
  simp [digs]; rfl
theorem okD_at (L : Lay) (s : ByteArray) (k : Nat) (h : k < s.size) (hL : k < L.tns.length) : okD (L.tn k) (s.data.toList.getD k 0) = (decide (48 ≤ s[k].toNat) && decide (s[k].toNat ≤ 48 + L.tns[k].jny.length)) := by
  have : s.data.toList.getD k 0 = s[k] := by
    rw [List.getD_eq_getElem?_getD, List.getElem?_eq_getElem (by simpa using h)]; rfl
  rw [this, okD, tn_eq L k hL]

set_option maxHeartbeats 400000 in
theorem state_any (v : Value) (L : Lay) (s : ByteArray) (w : World) (h : RPlan w v L) (hsm : L.tns.length ≤ 1000) :
    Calls Tryz.prog 105 #[v, .string s] w fun e w' => ∃ v', e = .returned (.tuple #[v', .bool (L.stateB s.data.toList)]) ∧ (L.stateB s.data.toList = true → Ints w' v' (digs s.data.toList)) ∧ Below w.heap.size w w' := by
  obtain ⟨vh, vr, vt, rfl, -, -, hT⟩ := h
  obtain ⟨aot, capt, rfl, t1, t2, t3⟩ := SlAt.open hT
  clear hT
  unfold maxLen at t2
  obtain ⟨i0, hi0⟩ := info_parts Tryz.infoInt
  have HI := hide hi0
  clear hi0
  generalize hzz : L.stateB s.data.toList = z
  have HZ := hide hzz
  clear hzz
  have hsl : s.data.toList.length = s.size := by simp
  by_cases hne : s.size = L.tns.length
  · have HN := hide hne
    have hne' : ((s.size : Int) != (L.tns.length : Int)) = false := by simp; omega
    have hsz : s.size ≤ 1000 := by omega
    have HSL := hide hsl
    clear hne hsl
    go_enter Tryz.func105, Tryz.ntmps105
    go_wp2
    go_loopw [6, 7] (fun r i wr => ∃ k : Nat, k ≤ s.size ∧ i = .int .i64 k ∧ wr.ownsRow (w.heap.size + 1) 3 1 r k (intsV ((digs s.data.toList).take k)) ∧
        (∀ k', k' < k → okD (L.tn k') (s.data.toList.getD k' 0) = true) ∧
        Below (w.heap.size + 1) (w.alloc (planBox L vh vr (.slice aot L.tns.length capt))) wr) (fun _ i _ => s.size - (intOf i).toNat)
    case atStart => exact ⟨0, Nat.zero_le _, rfl, World.ownsRow_nil _ _ _ _, fun k' h => by omega, Below.refl _ _⟩
    case round =>
      obtain ⟨k, hk, rfl, hown, hq, hb⟩ := hrel
      clear hne'
      have HQ := hide hq
      have HB := hide hb
      obtain ⟨q0, q1, q2, q3, q4, q5, qs⟩ := plan_cells hb
      obtain ⟨p, hp⟩ : ∃ p, p = (digs s.data.toList).take k := ⟨_, rfl⟩
      rw [← hp] at hown
      have HP := hide hp
      clear hp hq
      by_cases hlt : k < s.size
      · have hltL : k < L.tns.length := by have := unhide HN; omega
        obtain ⟨g, off, hao, hg, cs, -, hC, hc⟩ := t3 k hltL
        subst hao
        obtain ⟨vj, rfl, hJ⟩ := hC
        have hc1 := hc 1 (by omega)
        rw [← (box_below hb).cell (p := ⟨g, _, none⟩) hg] at hc1
        obtain ⟨aoj, capj, rfl, j1, j2, -⟩ := SlAt.open hJ
        have HO := hide (okD_at L s k hlt hltL)
        have HS := hide (digs_take s k hlt)
        clear hc t3 hJ hb
        unfold maxLen at j2
        simp at hc1
        generalize L.tns[k].jny = jl at *
        have hcb : s[k].toNat < 256 := s[k].toNat_lt
        obtain ⟨c, hce⟩ : ∃ c, s[k].toNat = c := ⟨_, rfl⟩
        rw [hce] at hcb HO HS
        have HBAD := hide (fun (h : ¬ (48 ≤ c ∧ c ≤ 48 + jl.length)) => show z = false by
          have hno : okD (L.tn k) (s.data.toList.getD k 0) = false := by rw [unhide HO]; simp; omega
          rw [← unhide HZ, Lay.stateB]
          have : (List.range s.data.toList.length).all (fun j => okD (L.tn j) (s.data.toList.getD j 0)) = false :=
            List.all_eq_false.2 ⟨k, List.mem_range.2 (by rw [unhide HSL]; exact hlt), by rw [hno]; simp⟩
          rw [this, Bool.and_false])
        have hb3 := hide (box_below (unhide HB))
        by_cases c1 : c < 48
        · have hz := hide (unhide HBAD (by omega))
          go_wp2
          go_ret2
          exact ⟨.slice none 0 0, by rw [unhide hz]; rfl, fun h => absurd ((unhide hz).symm.trans h) (by simp), unhide hb3⟩
        by_cases c2 : 48 + jl.length < c
        · have hz := hide (unhide HBAD (by omega))
          go_wp2
          go_ret2
          exact ⟨.slice none 0 0, by rw [unhide hz]; rfl, fun h => absurd ((unhide hz).symm.trans h) (by simp), unhide hb3⟩
        · go_wp2_with (at_builtin; refine wpList_append_own _ rfl _ _ 50 rfl (w.heap.size + 1) 3 i0 (.int .i64 0) 1 8 Tryz.underlying50 (unhide HI).1 (unhide HI).2.1 (unhide HI).2.2.1 (unhide HI).2.2.2 rfl (by decide) _ _ _ rfl (hown.alloc _) ⟨wr.heap.size, 0, none⟩ 1 1 [.int .i64 ((c : Int) - 48)] rfl rfl (one_new _ _ _) (one_cell1 rfl) (by unfold maxLen; omega) (by omega) (by simp; omega) ?_; intro v' w1 hown' hgrow _)
          have hb' := grow_below (unhide HB) (by omega) hown hgrow
          have hok : okD (L.tn k) (s.data.toList.getD k 0) = true := by rw [unhide HO]; simp; omega
          have hcc : (c : Int) - 48 = ((c - 48 : Nat) : Int) := by omega
          rw [hcc] at hown'
          clear hgrow hown
          go_wp2
          refine ⟨⟨k + 1, by omega, by go_num, by rw [unhide HS, ← unhide HP, intsV_snoc]; exact hown', fun k' h => ?_, hb'⟩, by simp [intOf]; omega⟩
          rcases Nat.lt_or_ge k' k with h' | h'
          · exact unhide HQ k' h'
          · obtain rfl : k' = k := by omega
            exact hok
      · obtain rfl : k = s.size := by omega
        have hfin := hide (Ints.ofOwn hown (by rw [unhide HP]; simp [digs]))
        rw [unhide HP, List.take_of_length_le (by simp [digs])] at hfin
        have hb3 := hide (box_below (unhide HB))
        have hz := hide (show z = true by
          rw [← unhide HZ, Lay.stateB, unhide HSL, unhide HN]
          rw [← unhide HN, List.all_eq_true.2 (fun j hj => unhide HQ j (List.mem_range.1 hj))]; simp [unhide HN])
        clear t3 hown HP hb
        go_wp2
        go_ret2
        exact ⟨u6, by rw [unhide hz]; rfl, fun _ => unhide hfin, unhide hb3⟩
  · have hz := hide (show z = false by rw [← unhide HZ, Lay.stateB, hsl]; simp [hne])
    have hne' : ((s.size : Int) != (L.tns.length : Int)) = true := by simp; omega
    clear hne hsl
    go_enter Tryz.func105, Tryz.ntmps105
    go_wp2
    go_ret2
    exact ⟨.slice none 0 0, by rw [unhide hz]; rfl, fun h => absurd ((unhide hz).symm.trans h) (by simp), below_alloc _ _⟩
end Go.Proofs.YtkbpocecbcaiiaaGreatDoor
