import Derived.Test.YtkbpocecbcaiiaaDoorG2
import Derived.Test.YtkbpocecbcaiiaaDoorG1
import Derived.Test.YtkbpocecbcaiiaaDoorG14
/-
  THE WALK OVER strconv.Itoa, at the numbers that Order hands it.
-/
namespace Go.Proofs.YtkbpocecbcaiiaaDoor
open Go.RowKit

set_option maxHeartbeats 400000 in
theorem Itoa_any (n : Nat) (w : World) (h : n < 10) :
    Calls Tryd.prog 17 #[.int .i64 n] w fun e w' => e = .returned (.string ⟨#[UInt8.ofNat (48 + n)]⟩) ∧ w' = w := by
  have h10 : (n : Int) < 10 := by omega
  have h100 : (n : Int) < 100 := by omega
  have h0 : (0 : Int) ≤ n := by omega
  go_enter Tryd.func17, Tryd.ntmps17
  go_wp2
  go_ret
  refine ⟨?_, rfl⟩
  clear h10 h100 h0
  match n, h with
  | 0, _ => rfl
  | 1, _ => rfl
  | 2, _ => rfl
  | 3, _ => rfl
  | 4, _ => rfl
  | 5, _ => rfl
  | 6, _ => rfl
  | 7, _ => rfl
  | 8, _ => rfl
  | 9, _ => rfl
end Go.Proofs.YtkbpocecbcaiiaaDoor

/-
  AN ORDER AS A TEXT; AN ORDER FOLLOWED TO ITS END.
-/
namespace Go.Proofs.YtkbpocecbcaiiaaDoor

/-- an order, followed to its end. -/
def Lay.Foll (L : Lay) : List Nat → List Nat → Prop
  | at_, [] => L.allDone at_ = true
  | at_, t :: o => t < at_.length ∧ L.doneB at_ t = false ∧ L.runsB at_ t = true ∧ L.Foll (L.withN at_ t) o

def ordStr (o : List Nat) : ByteArray := ⟨(o.map (fun t => UInt8.ofNat (49 + t))).toArray⟩
theorem ordStr_snoc (o : List Nat) (t : Nat) : ordStr o ++ ⟨#[UInt8.ofNat (48 + (t + 1))]⟩ = ordStr (o ++ [t]) := by
  apply ByteArray.ext
  rw [ByteArray.data_append]
  unfold ordStr
  rw [show 48 + (t + 1) = 49 + t by omega]
  simp
theorem ordStr_size (o : List Nat) : (ordStr o).size = o.length := by simp [ordStr, ByteArray.size]
theorem ordStr_get (o : List Nat) (k : Nat) (h : k < (ordStr o).size) (h9 : ∀ t, t ∈ o → t < 9) : (ordStr o)[k].toNat = 49 + o[k]'(by rw [ordStr_size] at h; exact h) := by
  have hk : k < o.length := by rw [ordStr_size] at h; exact h
  have e : (ordStr o)[k] = UInt8.ofNat (49 + o[k]) := by
    show (ordStr o).data[k]'(by exact h) = _
    simp [ordStr]
  have := h9 _ (List.getElem_mem hk)
  rw [e, UInt8.toNat_ofNat_of_lt' (by simp [UInt8.size]; omega)]
end Go.Proofs.YtkbpocecbcaiiaaDoor

/-
  THE WALK OVER rails.digits.
-/
namespace Go.Proofs.YtkbpocecbcaiiaaDoor
open Go.RowKit

theorem Itoa_succ (n : Nat) (w : World) (h : n < 9) :
    Calls Tryd.prog 17 #[.int .i64 ((n : Int) + 1)] w fun e w' => e = .returned (.string ⟨#[UInt8.ofNat (48 + (n + 1))]⟩) ∧ w' = w := by
  have := Itoa_any (n + 1) w (by omega)
  rw [show ((n + 1 : Nat) : Int) = (n : Int) + 1 by omega] at this
  exact this

set_option maxHeartbeats 1000000 in
theorem digits_any (v : Value) (o : List Nat) (w : World) (h : Ints w v o) (h9 : ∀ t, t ∈ o → t < 9) (_hlo : o.length ≤ 1000) :
    Calls Tryd.prog 8 #[v] w fun e w' => e = .returned (.string (ordStr o)) ∧ w' = w := by
  have HT := hide h9
  obtain ⟨ag, cg, rfl, h1, h2, h3⟩ := SlAt.open h
  unfold maxLen at h2
  clear h h9
  go_enter Tryd.func8, Tryd.ntmps8
  go_wp2
  go_loopw [3, 8] (fun d i wr => ∃ k : Nat, k ≤ o.length ∧ i = .int .i64 k ∧ d = .string (ordStr (o.take k)) ∧ wr = w) (fun _ i _ => o.length - (intOf i).toNat)
  case atStart => exact ⟨0, Nat.zero_le _, rfl, rfl, rfl⟩
  case round =>
    obtain ⟨k, hk, rfl, rfl, rfl⟩ := hrel
    have hsz := ordStr_size (o.take k)
    rw [List.length_take, Nat.min_eq_left hk] at hsz
    obtain ⟨p, hp⟩ : ∃ p, p = ordStr (o.take k) := ⟨_, rfl⟩
    rw [← hp] at hsz ⊢
    have HP := hide hp
    clear hp
    by_cases hlt : k < o.length
    · obtain ⟨g, off, hao, hg, cs, -, hC, hc⟩ := h3 k hlt
      subst hao
      unfold CInt at hC
      subst hC
      have hc0 := hc 0 (by omega)
      simp at hc0
      have h9 := unhide HT _ (List.getElem_mem hlt)
      have HS := hide (show ordStr (o.take (k + 1)) = p ++ ⟨#[UInt8.ofNat (48 + (o[k] + 1))]⟩ by
        rw [unhide HP, ordStr_snoc, List.take_succ_eq_append_getElem hlt])
      clear hc h3
      generalize o[k] = t at *
      go_wp2_with (go_at_call 17; refine (Itoa_succ t _ h9).mono ?_; rintro e w' ⟨rfl, rfl⟩)
      exact ⟨⟨k + 1, by omega, by go_num, by rw [unhide HS]; simp, by trivial⟩, by simp [intOf]; omega⟩
    · obtain rfl : k = o.length := by omega
      rw [List.take_length] at HP
      clear h3
      go_wp2
      go_ret
      exact ⟨by first | (rw [unhide HP]; done) | (rw [← unhide HP]; rfl), rfl⟩

end Go.Proofs.YtkbpocecbcaiiaaDoor

/-
  THE WALK OVER rails.Order.
-/
namespace Go.Proofs.YtkbpocecbcaiiaaDoor
open Go.RowKit

/-- the trains of the order that is told. -/
def trainsOf (s a : ByteArray) : List Nat := (orderL (layL s).2.2.tns.length ((layL s).2.2.stsAt (digs a.data.toList))).1
def ansOf (s a : ByteArray) : ByteArray × Nat :=
  if (ordOf s a).2 ≠ 0 then (⟨#[]⟩, (ordOf s a).2)
  else if (ordOf s a).1 = false then (⟨#[]⟩, 8)
  else (ordStr (trainsOf s a), 0)

set_option maxHeartbeats 1000000 in
theorem lOrder_any (s a : ByteArray) (w : World) (hP : ReadPaths s) (hB : (ordOf s a).1 = true → (trainsOf s a).length ≤ 1000 ∧ ∀ t, t ∈ trainsOf s a → t < 9) :
    Calls Tryd.prog 4 #[.string s, .string a] w fun e w' => e = .returned (.tuple #[.string (ansOf s a).1, .int .i64 (ansOf s a).2]) ∧ Below w.heap.size w w' := by
  have H := hide (orderFrom_any s a w hP)
  change Hid (Calls _ _ _ _ (fun e w' => ∃ (ao : Option Addr) (no co : Nat), _ ∧ (_ → Ints w' (.slice ao no co) (trainsOf s a)) ∧ _)) at H
  obtain ⟨Z, hZ⟩ : ∃ Z, Z = ansOf s a := ⟨_, rfl⟩
  rw [← hZ]
  unfold ansOf at hZ
  have HZ := hide hZ
  have HB := hide hB
  generalize ordOf s a = E at *
  generalize trainsOf s a = o at *
  obtain ⟨b, n⟩ := E
  simp only at H HZ HB
  clear hP hZ hB
  go_enter Tryd.func4, Tryd.ntmps4
  go_wp2_with fail
  refine (unhide H).mono ?_
  rintro e w1 ⟨ao, no, co, rfl, hI, hb⟩
  have HI := hide hI
  have HW := hide hb
  clear hI hb H
  by_cases h0 : n = 0
  · rw [if_neg (by simp [h0])] at HZ
    have hE : ((n : Int) != 0) = false := by simp [h0]
    clear h0
    cases b with
    | false =>
      rw [if_pos rfl] at HZ
      go_wp2
      go_ret2
      exact ⟨by rw [unhide HZ] <;> rfl, unhide HW⟩
    | true =>
      rw [if_neg (by simp)] at HZ
      obtain ⟨hlo, ht9⟩ := unhide HB rfl
      have hI := unhide HI rfl
      have HT := hide ht9
      clear HB HI ht9
      go_wp2_with fail
      refine (digits_any _ o _ hI (unhide HT) hlo).mono ?_
      rintro e w' ⟨rfl, rfl⟩
      clear hI
      go_wp2
      go_ret2
      exact ⟨by rw [unhide HZ] <;> rfl, unhide HW⟩
  · rw [if_pos h0] at HZ
    have hE : ((n : Int) != 0) = true := by simp [h0]
    clear h0
    go_wp2
    go_ret2
    exact ⟨by rw [unhide HZ] <;> rfl, unhide HW⟩
end Go.Proofs.YtkbpocecbcaiiaaDoor
