import Derived.Test.YtkbpocecbcaiiaaGreatDoorG9
import Derived.Deep.RegionWith
import Derived.Deep.QuietTactic
import Derived.BigQuiet
import Derived.WalkSmall
import Derived.Test.YtkbpocecbcaiiaaGreatDoorG2
import Derived.Test.YtkbpocecbcaiiaaGreatDoorG5
/-
  THE WALKS OVER safety: has, mayRun, firstToRun, allDone.
-/
namespace Go.Proofs.YtkbpocecbcaiiaaGreatDoor
open Go.RowKit

structure St where
  done : Bool
  holds : Nat
  ahead : List Nat
def CSt (w : World) (x : St) (cs : List Value) : Prop := ∃ va, cs = [.bool x.done, .int .i64 x.holds, va] ∧ Ints w va x.ahead
theorem CSt.keep {w w' : World} {x : St} {cs : List Value} (h : CSt w x cs) (k : Keeps 3 w w') : CSt w' x cs := by
  obtain ⟨va, e, a⟩ := h
  exact ⟨va, e, a.keep k⟩
def Sts (w : World) (v : Value) (l : List St) : Prop := SlAt 223 3 CSt w v l
theorem Sts.keep {w w' : World} {v : Value} {l : List St} (h : Sts w v l) (k : Keeps 223 w w') (k1 : Keeps 3 w w') : Sts w' v l := SlAt.keep h k (fun _ _ h => h.keep k1)
theorem Sts.below {w w' : World} {v : Value} {l : List St} (h : Sts w v l) (k : Below w.heap.size w w') : Sts w' v l := h.keep (.below k) (.below k)
def mayRunL (l : List St) (who : Nat) : Bool := (List.range l.length).all (fun i => i == who || (l.getD i ⟨false, 0, []⟩).done || !(l.getD who ⟨false, 0, []⟩).ahead.contains (l.getD i ⟨false, 0, []⟩).holds)
theorem stD (l : List St) (i : Nat) (h : i < l.length) : l.getD i ⟨false, 0, []⟩ = l[i] := by
  simp [List.getD_eq_getElem?_getD, List.getElem?_eq_getElem h]

set_option maxHeartbeats 400000 in
theorem has_any (v : Value) (l : List Nat) (x : Nat) (w : World) (h : Ints w v l) :
    Calls Tryz.prog 210 #[v, .int .i64 x] w fun e w' => e = .returned (.bool (l.contains x)) ∧ w' = w := by
  obtain ⟨ao, cap, rfl, h1, h2, h3⟩ := SlAt.open h
  clear h
  unfold maxLen at h2
  generalize hz : l.contains x = z
  have HZ := hide hz
  clear hz
  go_enter Tryz.func210, Tryz.ntmps210
  go_wp2
  go_loop [9] (fun i => ∃ k : Nat, i = .int .i64 k ∧ k ≤ l.length ∧ (∀ j (hj : j < l.length), j < k → l[j] ≠ x)) (fun i => l.length - (intOf i).toNat)
  case atStart => exact ⟨0, rfl, Nat.zero_le _, fun j _ h => by omega⟩
  case round =>
    obtain ⟨k, rfl, hk, hno⟩ := hrel
    have HNO := hide hno
    clear hno
    by_cases hlt : k < l.length
    · obtain ⟨g, off, hao, -, cs, -, hC, hc⟩ := h3 k hlt
      unfold CInt at hC
      subst hC
      have hc0 := hc 0 (by omega)
      simp at hc0
      have hmem := hide (List.getElem_mem hlt)
      clear hc h3
      by_cases hx : l[k] = x
      · have d : ((l[k] : Int) == (x : Int)) = true := by simp; omega
        have HZ2 := hide (show z = true by rw [← unhide HZ, List.contains_iff_mem, ← hx]; exact unhide hmem)
        clear hx
        generalize l[k] = y at *
        go_wp2
        go_ret
        exact ⟨ret_bool (unhide HZ2).symm, rfl⟩
      · have d : ((l[k] : Int) == (x : Int)) = false := by simp; omega
        have HNK := hide (show ∀ j (hj : j < l.length), j < k + 1 → l[j] ≠ x by
          intro j hj hjk
          rcases Nat.lt_or_ge j k with h | h
          · exact unhide HNO j hj h
          · obtain rfl : j = k := by omega
            exact hx)
        clear hx
        obtain ⟨y, hy⟩ : ∃ y, y = l[k] := ⟨_, rfl⟩
        rw [← hy] at d hc0
        clear hy hmem
        go_wp2
        exact ⟨⟨k + 1, by go_num, by omega, unhide HNK⟩, by simp [intOf]; omega⟩
    · have HZ2 := hide (show z = false by
        rw [← unhide HZ]
        apply Bool.eq_false_iff.2
        intro hc
        rw [List.contains_iff_mem] at hc
        obtain ⟨j, hj, e⟩ := List.getElem_of_mem hc
        exact unhide HNO j hj (by omega) e)
      clear h3
      go_wp2
      go_ret
      exact ⟨ret_bool (unhide HZ2).symm, rfl⟩

set_option maxHeartbeats 400000 in
theorem allDone_any (v : Value) (l : List St) (w : World) (h : Sts w v l) :
    Calls Tryz.prog 162 #[v] w fun e w' => e = .returned (.bool (l.all (·.done))) ∧ Below w.heap.size w w' := by
  obtain ⟨ao, cap, rfl, h1, h2, h3⟩ := SlAt.open h
  clear h
  unfold maxLen at h2
  generalize hz : l.all (·.done) = z
  have HZ := hide hz
  clear hz
  go_enter Tryz.func162, Tryz.ntmps162
  go_wp2
  go_loopw [7] (fun i wr => ∃ k : Nat, i = .int .i64 k ∧ k ≤ l.length ∧ (∀ j (hj : j < l.length), j < k → l[j].done = true) ∧ Below w.heap.size w wr) (fun i _ => l.length - (intOf i).toNat)
  case atStart => exact ⟨0, rfl, Nat.zero_le _, fun j _ h => by omega, Below.refl _ _⟩
  case round =>
    obtain ⟨k, rfl, hk, hno, hb⟩ := hrel
    have HNO := hide hno
    have HB := hide hb
    have hsz := hb.size
    clear hno
    by_cases hlt : k < l.length
    · obtain ⟨g, off, hao, hg, cs, -, hC, hc⟩ := h3 k hlt
      subst hao
      obtain ⟨va, rfl, hI⟩ := hC
      obtain ⟨aa, ca, rfl, -, -, -⟩ := SlAt.open hI
      have hc0 := hc 0 (by omega)
      have hc1 := hc 1 (by omega)
      have hc2 := hc 2 (by omega)
      rw [← hb.cell (p := ⟨g, _, none⟩) hg] at hc0 hc1 hc2
      simp at hc0 hc1 hc2
      have hgw : g < wr.heap.size := by omega
      have hmem := hide (List.getElem_mem hlt)
      clear hc h3 hI hb
      cases hd : l[k].done with
      | false =>
        have HZ2 := hide (show z = false by rw [← unhide HZ, List.all_eq_false]; exact ⟨l[k], unhide hmem, by simp [hd]⟩)
        rw [hd] at hc0
        clear hd
        generalize l[k] = y at *
        go_wp2
        go_ret
        exact ⟨ret_bool (unhide HZ2).symm, (unhide HB).alloc hsz _⟩
      | true =>
        have HNK := hide (show ∀ j (hj : j < l.length), j < k + 1 → l[j].done = true by
          intro j hj hjk
          rcases Nat.lt_or_ge j k with h | h
          · exact unhide HNO j hj h
          · obtain rfl : j = k := by omega
            exact hd)
        rw [hd] at hc0
        clear hd hmem
        obtain ⟨y, hy⟩ : ∃ y, y = l[k] := ⟨_, rfl⟩
        rw [← hy] at hc1 hc2
        clear hy
        go_wp2
        exact ⟨⟨k + 1, by go_num, by omega, unhide HNK, (unhide HB).alloc hsz _⟩, by simp [intOf]; omega⟩
    · have HZ2 := hide (show z = true by
        rw [← unhide HZ, List.all_eq_true]
        intro y hy
        obtain ⟨j, hj, rfl⟩ := List.getElem_of_mem hy
        exact unhide HNO j hj (by omega))
      clear h3
      go_wp2
      go_ret
      exact ⟨ret_bool (unhide HZ2).symm, hb⟩
end Go.Proofs.YtkbpocecbcaiiaaGreatDoor

/-
  THE WALKS OVER safety: mayRun, firstToRun.
-/
namespace Go.Proofs.YtkbpocecbcaiiaaGreatDoor
open Go.RowKit

set_option maxHeartbeats 1000000 in
theorem mayRun_any (v : Value) (l : List St) (who : Nat) (w : World) (h : Sts w v l) (hw : who < l.length) :
    Calls Tryz.prog 194 #[v, .int .i64 who] w fun e w' => e = .returned (.bool (mayRunL l who)) ∧ Below w.heap.size w w' := by
  obtain ⟨ao, cap, rfl, h1, h2, h3⟩ := SlAt.open h
  clear h
  unfold maxLen at h2
  obtain ⟨z, hz⟩ : ∃ z, z = mayRunL l who := ⟨_, rfl⟩
  rw [← hz]
  unfold mayRunL at hz
  have HZ := hide hz
  clear hz
  obtain ⟨g, off, rfl, hg, cs, -, hC, hc⟩ := h3 who hw
  obtain ⟨va, rfl, hI⟩ := hC
  have HIA := hide (show Ints w va l[who].ahead from hI)
  obtain ⟨aa, ca, rfl, -, -, -⟩ := SlAt.open hI
  have hw2 := hc 2 (by omega)
  simp at hw2
  have HWA := hide (stD l who hw)
  clear hc hI
  generalize hlw : l[who] = LW at *
  clear hlw
  go_enter Tryz.func194, Tryz.ntmps194
  go_wp2
  go_loopw [9] (fun i wr => ∃ k : Nat, i = .int .i64 k ∧ k ≤ l.length ∧ (∀ j, j < k → (j == who || (l.getD j ⟨false, 0, []⟩).done || !(l.getD who ⟨false, 0, []⟩).ahead.contains (l.getD j ⟨false, 0, []⟩).holds) = true) ∧ Below w.heap.size w wr) (fun i _ => l.length - (intOf i).toNat)
  case atStart => exact ⟨0, rfl, Nat.zero_le _, fun j h => by omega, Below.refl _ _⟩
  case round =>
    obtain ⟨k, rfl, hk, hno, hb⟩ := hrel
    have HNO := hide hno
    have HB := hide hb
    have hsz := hb.size
    clear hno
    by_cases hlt : k < l.length
    · obtain ⟨g', off', hao, -, cs, -, hC, hc⟩ := h3 k hlt
      simp only [Option.some.injEq, Addr.mk.injEq, and_true] at hao
      obtain ⟨rfl, rfl⟩ := hao
      obtain ⟨vb, rfl, hI2⟩ := hC
      obtain ⟨ab, cb, rfl, -, -, -⟩ := SlAt.open hI2
      have hc0 := hc 0 (by omega)
      have hc1 := hc 1 (by omega)
      have hc2 := hc 2 (by omega)
      rw [← hb.cell (p := ⟨g, _, none⟩) hg] at hc0 hc1 hc2 hw2
      simp at hc0 hc1 hc2 hw2
      have hgw : g < wr.heap.size := by omega
      have HSK := hide (stD l k hlt)
      clear hc h3 hI2 hb
      generalize hlk : l[k] = LK at *
      clear hlk
      have HP := hide (show ∀ bb, (k == who || LK.done || !LW.ahead.contains LK.holds) = bb → (k == who || (l.getD k ⟨false, 0, []⟩).done || !(l.getD who ⟨false, 0, []⟩).ahead.contains (l.getD k ⟨false, 0, []⟩).holds) = bb by
        intro bb h; rw [unhide HSK, unhide HWA]; exact h)
      have HTR := hide (fun (h : (k == who || LK.done || !LW.ahead.contains LK.holds) = true) => show ∀ j, j < k + 1 → (j == who || (l.getD j ⟨false, 0, []⟩).done || !(l.getD who ⟨false, 0, []⟩).ahead.contains (l.getD j ⟨false, 0, []⟩).holds) = true by
        intro j hj
        rcases Nat.lt_or_ge j k with h' | h'
        · exact unhide HNO j h'
        · obtain rfl : j = k := by omega
          exact unhide HP _ h)
      have HFA := hide (fun (h : (k == who || LK.done || !LW.ahead.contains LK.holds) = false) => show z = false by
        rw [unhide HZ, List.all_eq_false]
        exact ⟨k, List.mem_range.2 hlt, by rw [unhide HP _ h]; simp⟩)
      have hb3 := hide ((unhide HB).alloc hsz (.cells #[.bool LK.done, .int .i64 LK.holds, .slice ab LK.ahead.length cb] 223))
      by_cases hkw : k = who
      · have d : ((k : Int) == (who : Int)) = true := by simp; omega
        have HK1 := hide (unhide HTR (by simp [hkw]))
        clear hkw
        go_wp2
        exact ⟨⟨k + 1, by go_num, by omega, unhide HK1, unhide hb3⟩, by simp [intOf]; omega⟩
      have d : ((k : Int) == (who : Int)) = false := by simp; omega
      have e1 : (k == who) = false := by simpa using hkw
      rw [e1] at HTR HFA
      clear hkw e1
      cases hdn : LK.done with
      | true =>
        have HK1 := hide (unhide HTR (by simp [hdn]))
        rw [hdn] at hc0 hb3
        clear hdn
        go_wp2
        exact ⟨⟨k + 1, by go_num, by omega, unhide HK1, unhide hb3⟩, by simp [intOf]; omega⟩
      | false =>
        rw [hdn] at hc0 hb3 HTR HFA
        have hcc := hide (fun wz (hz : Below w.heap.size w wz) => has_any _ LW.ahead LK.holds wz ((unhide HIA).below hz))
        have l0 : (0 : Int) ≤ who := by omega
        have l1 : (who : Int) < l.length := by omega
        clear hdn
        cases hct : LW.ahead.contains LK.holds with
        | true =>
          rw [hct] at hcc
          have HZ2 := hide (unhide HFA (by rw [hct]; rfl))
          clear hct
          go_wp2
          go_quiet ((go_at_call 210; exact Calls.quiet_of_same (unhide hcc _ (by exact below_drewN (unhide hb3) _))))
          go_wp2
          go_ret
          exact ⟨ret_bool (unhide HZ2).symm, below_drewN (unhide hb3) _⟩
        | false =>
          rw [hct] at hcc
          have HK1 := hide (unhide HTR (by rw [hct]; rfl))
          clear hct
          go_wp2
          go_quiet ((go_at_call 210; exact Calls.quiet_of_same (unhide hcc _ (by exact below_drewN (unhide hb3) _))))
          go_wp2
          exact ⟨⟨k + 1, by go_num, by omega, unhide HK1, below_drewN (unhide hb3) _⟩, by simp [intOf]; omega⟩
    · have HZ2 := hide (show z = true by
        rw [unhide HZ, List.all_eq_true]
        intro j hj
        exact unhide HNO j (by have := List.mem_range.1 hj; omega))
      clear h3
      go_wp2
      go_ret
      exact ⟨ret_bool (unhide HZ2).symm, hb⟩

/-- the first that may run. -/
def firstL (l : List St) : Option Nat := (List.range l.length).find? (fun i => !(l.getD i ⟨false, 0, []⟩).done && mayRunL l i)
def firstV : Option Nat → Value × Bool
  | none => (.int .i64 0, false)
  | some i => (.int .i64 i, true)

theorem find_none' (p : Nat → Bool) (n : Nat) (h : ∀ k, k < n → p k = false) : (List.range n).find? p = none := by
  rw [List.find?_eq_none]; intro x hx; rw [h x (List.mem_range.1 hx)]; simp
theorem find_some' (p : Nat → Bool) (n k : Nat) (hk : k < n) (h : ∀ j, j < k → p j = false) (hp : p k = true) : (List.range n).find? p = some k := by
  rw [List.find?_eq_some_iff_append]
  refine ⟨hp, List.range k, (List.range (n - k - 1)).map (· + (k + 1)), ?_, ?_⟩
  · have e : n = k + (1 + (n - k - 1)) := by omega
    conv => lhs; rw [e]
    rw [List.range_add, List.range_add]
    simp [List.range_one, Nat.add_comm, Nat.add_left_comm, Function.comp_def]
  · intro x hx; rw [h x (List.mem_range.1 hx)]; rfl

set_option maxHeartbeats 1000000 in
theorem firstToRun_any (v : Value) (l : List St) (w : World) (h : Sts w v l) (hl : l.length ≤ 1000) :
    Calls Tryz.prog 161 #[v] w fun e w' => e = .returned (.tuple #[(firstV (firstL l)).1, .bool (firstV (firstL l)).2]) ∧ Below w.heap.size w w' := by
  have _ := hl
  have HS := hide h
  obtain ⟨ao, cap, rfl, h1, h2, h3⟩ := SlAt.open h
  clear h
  unfold maxLen at h2
  obtain ⟨z, hz⟩ : ∃ z, z = firstL l := ⟨_, rfl⟩
  rw [← hz]
  unfold firstL at hz
  have HZ := hide hz
  clear hz
  go_enter Tryz.func161, Tryz.ntmps161
  go_wp2
  go_loopw [4] (fun i wr => ∃ k : Nat, i = .int .i64 k ∧ k ≤ l.length ∧ (∀ j, j < k → (!(l.getD j ⟨false, 0, []⟩).done && mayRunL l j) = false) ∧ Below w.heap.size w wr) (fun i _ => l.length - (intOf i).toNat)
  case atStart => exact ⟨0, rfl, Nat.zero_le _, fun j h => by omega, Below.refl _ _⟩
  case round =>
    obtain ⟨k, rfl, hk, hno, hb⟩ := hrel
    have HNO := hide hno
    have HB := hide hb
    have hsz := hb.size
    clear hno
    by_cases hlt : k < l.length
    · obtain ⟨g, off, hao, hg, cs, -, hC, hc⟩ := h3 k hlt
      subst hao
      obtain ⟨vb, rfl, -⟩ := hC
      have hc0 := hc 0 (by omega)
      rw [← hb.cell (p := ⟨g, _, none⟩) hg] at hc0
      simp at hc0
      have hgw : g < wr.heap.size := by omega
      have HSK := hide (show (l.getD k ⟨false, 0, []⟩).done = l[k].done by rw [stD l k hlt])
      clear hc h3 hb
      have HFA := hide (fun (h : (!l[k].done && mayRunL l k) = false) => show ∀ j, j < k + 1 → (!(l.getD j ⟨false, 0, []⟩).done && mayRunL l j) = false by
        intro j hj
        rcases Nat.lt_or_ge j k with h' | h'
        · exact unhide HNO j h'
        · obtain rfl : j = k := by omega
          rw [unhide HSK]; exact h)
      have HTR := hide (fun (h : (!l[k].done && mayRunL l k) = true) => show z = some k by
        rw [unhide HZ]; exact find_some' _ _ k hlt (unhide HNO) (by rw [unhide HSK]; exact h))
      generalize l[k].done = dn at *
      cases dn with
      | true =>
        have HK := hide (unhide HFA rfl)
        go_wp2
        exact ⟨⟨k + 1, by go_num, by omega, unhide HK, unhide HB⟩, by simp [intOf]; omega⟩
      | false =>
        generalize hm : mayRunL l k = m at *
        have HM := hide hm
        clear hm
        go_wp2_with fail
        refine (mayRun_any _ l k _ ((unhide HS).below (unhide HB)) hlt).mono ?_
        rw [unhide HM]
        rintro e w2 ⟨rfl, hb2⟩
        have hb3 := hide ((unhide HB).trans (hb2.mono hsz))
        clear hb2
        cases m with
        | true =>
          have HK := hide (unhide HTR rfl)
          go_wp2
          go_ret2
          exact ⟨by rw [unhide HK] <;> rfl, unhide hb3⟩
        | false =>
          have HK := hide (unhide HFA rfl)
          go_wp2
          exact ⟨⟨k + 1, by go_num, by omega, unhide HK, unhide hb3⟩, by simp [intOf]; omega⟩
    · have HK := hide (show z = none by
        obtain rfl : k = l.length := by omega
        rw [unhide HZ]; exact find_none' _ _ (unhide HNO))
      clear h3
      go_wp2
      go_ret2
      exact ⟨by rw [unhide HK] <;> rfl, hb⟩
end Go.Proofs.YtkbpocecbcaiiaaGreatDoor

/-
  THE WALKS OVER safety: AtFirst, ReadState.
-/
namespace Go.Proofs.YtkbpocecbcaiiaaGreatDoor
open Go.RowKit

set_option maxHeartbeats 400000 in
theorem AtFirst_any (v : Value) (L : Lay) (w : World) (h : CLay w v L) (hl : L.tns.length ≤ 1000) :
    Calls Tryz.prog 72 #[v] w fun e w' => ∃ a n c, e = .returned (.slice a n c) ∧ Ints w' (.slice a n c) (List.replicate L.tns.length 0) ∧ Below w.heap.size w w' := by
  obtain ⟨vs, vr, vt, rfl, -, -, hT⟩ := h
  obtain ⟨at_, ct, rfl, -, -, -⟩ := SlAt.open hT
  clear hT
  obtain ⟨i0, hi0⟩ := info_parts Tryz.infoInt
  have hmk := fun (wz : World) => run_make (P := Tryz.prog) wz 50 3 i0 (.int .i64 0) Tryz.underlying50 hi0.1 hi0.2.1 .i64 .i64 (L.tns.length : Int) (L.tns.length : Int) (by omega) (by omega) (by rw [hi0.2.2.2]; omega) (by omega)
  rw [hi0.2.2.1] at hmk
  simp only [Int.toNat_natCast, Nat.mul_one] at hmk
  have hI := hide (fun (wz : World) => ints_made wz L.tns.length (by unfold maxLen; omega))
  clear hi0
  go_enter Tryz.func72, Tryz.ntmps72
  go_wp2
  go_ret
  refine ⟨_, _, _, rfl, ?_, two_below (o1 := layBox L vs vr (.slice at_ L.tns.length ct)) (Below.refl _ _)⟩
  have := unhide hI (w.alloc (layBox L vs vr (.slice at_ L.tns.length ct)))
  simpa [layBox] using this

theorem okD9 (t : Tn) (c : UInt8) (h : t.jny.length ≤ 8) : okD t c = (decide (48 ≤ c.toNat) && decide (c.toNat ≤ 57) && decide (c.toNat ≤ 48 + t.jny.length)) := by
  unfold okD
  rw [Bool.eq_iff_iff]
  simp only [Bool.and_eq_true, decide_eq_true_eq]
  omega

set_option maxHeartbeats 1000000 in
theorem ReadState_any (v : Value) (L : Lay) (s : ByteArray) (w : World) (h : CLay w v L) (hsm : L.tns.length ≤ 1000) (hj8 : ∀ t, t ∈ L.tns → t.jny.length ≤ 8) :
    Calls Tryz.prog 153 #[v, .string s] w fun e w' => ∃ v', e = .returned (.tuple #[v', .bool (L.stateB s.data.toList)]) ∧ (L.stateB s.data.toList = true → Ints w' v' (digs s.data.toList)) ∧ Below w.heap.size w w' := by
  obtain ⟨vh, vr, vt, rfl, -, -, hT⟩ := h
  obtain ⟨aot, capt, rfl, t1, t2, t3⟩ := SlAt.open hT
  clear hT
  unfold maxLen at t2
  obtain ⟨i0, hi0⟩ := info_parts Tryz.infoInt
  have HI := hide hi0
  clear hi0
  generalize hzz : L.stateB s.data.toList = z
  have HZ := hide hzz
  clear hzz
  have hsl : s.data.toList.length = s.size := by simp
  by_cases hne : s.size = L.tns.length
  · have HN := hide hne
    have hne' : ((s.size : Int) != (L.tns.length : Int)) = false := by simp; omega
    have hsz : s.size ≤ 1000 := by omega
    have HSL := hide hsl
    clear hne hsl
    go_enter Tryz.func153, Tryz.ntmps153
    go_wp2
    go_loopw [6, 7] (fun r i wr => ∃ k : Nat, k ≤ s.size ∧ i = .int .i64 k ∧ wr.ownsRow (w.heap.size + 1) 3 1 r k (intsV ((digs s.data.toList).take k)) ∧
        (∀ k', k' < k → okD (L.tn k') (s.data.toList.getD k' 0) = true) ∧
        Below (w.heap.size + 1) (w.alloc (layBox L vh vr (.slice aot L.tns.length capt))) wr) (fun _ i _ => s.size - (intOf i).toNat)
    case atStart => exact ⟨0, Nat.zero_le _, rfl, World.ownsRow_nil _ _ _ _, fun k' h => by omega, Below.refl _ _⟩
    case round =>
      obtain ⟨k, hk, rfl, hown, hq, hb⟩ := hrel
      clear hne'
      have HQ := hide hq
      have HB := hide hb
      obtain ⟨q0, q1, q2, q3, q4, q5, qs⟩ := lay_cells hb
      obtain ⟨p, hp⟩ : ∃ p, p = (digs s.data.toList).take k := ⟨_, rfl⟩
      rw [← hp] at hown
      have HP := hide hp
      clear hp hq
      by_cases hlt : k < s.size
      · have hltL : k < L.tns.length := by have := unhide HN; omega
        have hj := hj8 _ (List.getElem_mem hltL)
        obtain ⟨g, off, hao, hg, cs, -, hC, hc⟩ := t3 k hltL
        subst hao
        obtain ⟨vj, rfl, hJ⟩ := hC
        have hc1 := hc 1 (by omega)
        rw [← (box_below hb).cell (p := ⟨g, _, none⟩) hg] at hc1
        obtain ⟨aoj, capj, rfl, j1, j2, -⟩ := SlAt.open hJ
        have HO := hide (okD_at L s k hlt hltL)
        have HS := hide (digs_take s k hlt)
        have l1 : (k : Int) < L.tns.length := by omega
        clear hc t3 hJ hb hj8
        unfold maxLen at j2
        simp at hc1
        generalize L.tns[k].jny = jl at *
        have hcb : s[k].toNat < 256 := s[k].toNat_lt
        obtain ⟨c, hce⟩ : ∃ c, s[k].toNat = c := ⟨_, rfl⟩
        rw [hce] at hcb HO HS
        have HBAD := hide (fun (h : ¬ (48 ≤ c ∧ c ≤ 48 + jl.length)) => show z = false by
          have hno : okD (L.tn k) (s.data.toList.getD k 0) = false := by rw [unhide HO]; simp; omega
          rw [← unhide HZ, Lay.stateB]
          have : (List.range s.data.toList.length).all (fun j => okD (L.tn j) (s.data.toList.getD j 0)) = false :=
            List.all_eq_false.2 ⟨k, List.mem_range.2 (by rw [unhide HSL]; exact hlt), by rw [hno]; simp⟩
          rw [this, Bool.and_false])
        have hb3 := hide (box_below (unhide HB))
        by_cases c1 : c < 48
        · have hz := hide (unhide HBAD (by omega))
          go_wp2
          go_ret2
          exact ⟨.slice none 0 0, by rw [unhide hz]; rfl, fun h => absurd ((unhide hz).symm.trans h) (by simp), unhide hb3⟩
        by_cases c9 : 57 < c
        · have hz := hide (unhide HBAD (by omega))
          go_wp2
          go_ret2
          exact ⟨.slice none 0 0, by rw [unhide hz]; rfl, fun h => absurd ((unhide hz).symm.trans h) (by simp), unhide hb3⟩
        by_cases c2 : 48 + jl.length < c
        · have hz := hide (unhide HBAD (by omega))
          go_wp2
          go_ret2
          exact ⟨.slice none 0 0, by rw [unhide hz]; rfl, fun h => absurd ((unhide hz).symm.trans h) (by simp), unhide hb3⟩
        · go_wp2_with (at_builtin; refine wpList_append_own _ rfl _ _ 50 rfl (w.heap.size + 1) 3 i0 (.int .i64 0) 1 8 Tryz.underlying50 (unhide HI).1 (unhide HI).2.1 (unhide HI).2.2.1 (unhide HI).2.2.2 rfl (by decide) _ _ _ rfl (hown.alloc _) ⟨wr.heap.size, 0, none⟩ 1 1 [.int .i64 ((c : Int) - 48)] rfl rfl (one_new _ _ _) (one_cell1 rfl) (by unfold maxLen; omega) (by omega) (by simp; omega) ?_; intro v' w1 hown' hgrow _)
          have hb' := grow_below (unhide HB) (by omega) hown hgrow
          have hok : okD (L.tn k) (s.data.toList.getD k 0) = true := by rw [unhide HO]; simp; omega
          have hcc : (c : Int) - 48 = ((c - 48 : Nat) : Int) := by omega
          rw [hcc] at hown'
          clear hgrow hown
          go_wp2
          refine ⟨⟨k + 1, by omega, by go_num, by rw [unhide HS, ← unhide HP, intsV_snoc]; exact hown', fun k' h => ?_, hb'⟩, by simp [intOf]; omega⟩
          rcases Nat.lt_or_ge k' k with h' | h'
          · exact unhide HQ k' h'
          · obtain rfl : k' = k := by omega
            exact hok
      · obtain rfl : k = s.size := by omega
        have hfin := hide (Ints.ofOwn hown (by rw [unhide HP]; simp [digs]))
        rw [unhide HP, List.take_of_length_le (by simp [digs])] at hfin
        have hb3 := hide (box_below (unhide HB))
        have hz := hide (show z = true by
          rw [← unhide HZ, Lay.stateB, unhide HSL, unhide HN]
          rw [← unhide HN, List.all_eq_true.2 (fun j hj => unhide HQ j (List.mem_range.1 hj))]; simp [unhide HN])
        have dd : ¬ (s.size : Int) < L.tns.length := by have := unhide HN; omega
        clear t3 hown HP hb hj8
        go_wp2
        go_ret2
        exact ⟨u6, by rw [unhide hz]; rfl, fun _ => unhide hfin, unhide hb3⟩
  · have hz := hide (show z = false by rw [← unhide HZ, Lay.stateB, hsl]; simp [hne])
    have hne' : ((s.size : Int) != (L.tns.length : Int)) = true := by simp; omega
    clear hne hsl hj8
    go_enter Tryz.func153, Tryz.ntmps153
    go_wp2
    go_ret2
    exact ⟨.slice none 0 0, by rw [unhide hz]; rfl, fun h => absurd ((unhide hz).symm.trans h) (by simp), below_alloc _ _⟩
end Go.Proofs.YtkbpocecbcaiiaaGreatDoor
