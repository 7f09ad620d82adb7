import Derived.Test.YtkbpocecbcaiiaaDoorG15
import Derived.Test.YtkbpocecbcaiiaaDoorG18
import Derived.Test.YtkbpocecbcaiiaaDoorG19
/-
  THE ORDER THAT THE GREEDY SEARCH TELLS IS FOLLOWED TO ITS END.
-/
namespace Go.Proofs.YtkbpocecbcaiiaaDoor

theorem order_foll (L : Lay) : ∀ (f : Nat) (at_ : List Nat) (l : List St), RelS L at_ l → (∀ i (h : i < l.length), l[i].done = true → L.doneB at_ i = true) → (orderL f l).2.all (·.done) = true → L.Foll at_ (orderL f l).1 := by
  have hall : ∀ (at_ : List Nat) (l : List St), RelS L at_ l → (∀ i (h : i < l.length), l[i].done = true → L.doneB at_ i = true) → l.all (·.done) = true → L.allDone at_ = true := by
    intro at_ l hR hx h
    unfold Lay.allDone
    rw [List.all_eq_true]
    intro i hi
    have hi' : i < l.length := by rw [hR.1, ← hR.2.1]; exact List.mem_range.1 hi
    rw [List.all_eq_true] at h
    exact hx i hi' (h _ (List.getElem_mem hi'))
  intro f
  induction f with
  | zero => intro at_ l hR hx h; exact hall at_ l hR hx h
  | succ f ih =>
    intro at_ l hR hx h
    unfold orderL at h ⊢
    cases hf : firstL l with
    | none =>
      rw [hf] at h
      exact hall at_ l hR hx h
    | some k =>
      rw [hf] at h
      simp only at h ⊢
      obtain ⟨hk, hd, hm⟩ := firstL_some hf
      have hk' : k < at_.length := by rw [hR.2.1, ← hR.1]; exact hk
      refine ⟨hk', (hR.2.2 k hk hd).1, runs_of_may L at_ l hR hx k hk hd hm, ?_⟩
      refine ih (L.withN at_ k) (markD l k) ⟨by rw [markD_len]; exact hR.1, by rw [withN_len]; exact hR.2.1, fun i hi hdi => ?_⟩ (fun i hi hdi => ?_) h
      · have hi' : i < l.length := by rw [markD_len] at hi; exact hi
        rw [markD_get l k i hk hi'] at hdi ⊢
        by_cases hki : k = i
        · rw [if_pos hki] at hdi; cases hdi
        · rw [if_neg hki] at hdi ⊢
          obtain ⟨a1, a2, a3⟩ := hR.2.2 i hi' hdi
          have e : (L.withN at_ k).getD i 0 = at_.getD i 0 := by rw [withN_get, if_neg (by omega)]
          rw [e]
          exact ⟨by unfold Lay.doneB at a1 ⊢; rw [e]; exact a1, a2, a3⟩
      · have hi' : i < l.length := by rw [markD_len] at hi; exact hi
        rw [markD_get l k i hk hi'] at hdi
        by_cases hki : k = i
        · subst hki; exact withN_done L at_ k hk'
        · rw [if_neg hki] at hdi
          have := hx i hi' hdi
          have e : (L.withN at_ k).getD i 0 = at_.getD i 0 := by rw [withN_get, if_neg (by omega)]
          unfold Lay.doneB at this ⊢; rw [e]; exact this

theorem foll_lt (L : Lay) : ∀ (o at_ : List Nat), L.Foll at_ o → ∀ t, t ∈ o → t < at_.length
  | [], _, _, t, h => by cases h
  | x :: o, at_, h, t, ht => by
    rcases List.mem_cons.1 ht with e | e
    · rw [e]; exact h.1
    · have := foll_lt L o _ h.2.2.2 t e
      rw [withN_len] at this; exact this
theorem order_len : ∀ (f : Nat) (l : List St), (orderL f l).1.length ≤ f
  | 0, _ => Nat.le_refl _
  | f + 1, l => by
    unfold orderL
    cases firstL l with
    | none => exact Nat.zero_le _
    | some k => simpa using order_len f (markD l k)
theorem order_followed (L : Lay) (at_ : List Nat) (hl : at_.length = L.tns.length) (h : (orderL L.tns.length (L.stsAt at_)).2.all (·.done) = true) : L.Foll at_ (orderL L.tns.length (L.stsAt at_)).1 := by
  obtain ⟨hR, hx⟩ := sts_rel L at_ hl
  exact order_foll L _ at_ _ hR hx h
end Go.Proofs.YtkbpocecbcaiiaaDoor

/-
  THE WALK OVER railslaw.Orders.
-/
namespace Go.Proofs.YtkbpocecbcaiiaaDoor
open Go.RowKit

/-- what the program tells is right by the document. -/
theorem ans_right (s a : ByteArray) (w : World) :
    Calls Tryd.prog 5 #[.string s, .string a, .string (ansOf s a).1, .int .i64 (ansOf s a).2] w fun e w' => e = .returned (.bool true) ∧ Below w.heap.size w w' := by
  have hA := ord_eq s a
  unfold ansOf
  by_cases h0 : (ordOf s a).2 = 0
  · rw [if_neg (by simp [h0])]
    cases h1 : (ordOf s a).1 with
    | false =>
      rw [if_pos rfl]
      exact Ordered_stuck s a w form_ok (by rw [← hA]; exact Prod.ext h1 h0)
    | true =>
      rw [if_neg (by simp)]
      have hE : ordOf s a = (true, 0) := Prod.ext h1 h0
      rw [hA] at hE
      obtain ⟨e0, e1⟩ := safe_true hE
      obtain ⟨b1, b2, b3, -⟩ := err0 _ e0
      have hs : s.size ≤ 256 := by simpa using b1
      rcases form_eq s hs with ⟨f1, f2, f3, -⟩ | ⟨f1, f2, f3⟩
      · rw [f3] at e1 b3
        have hl := stateB_len e1
        have hok : (layL s).2.2.okL (digs a.data.toList) = true := by
          have hx : ordOf s a = (true, 0) := Prod.ext h1 h0
          unfold ordOf at hx
          rw [(load_eq s).1, if_neg (by simp [e0]), if_neg (by simp [e1])] at hx
          exact (Prod.mk.inj hx).1
        have hfo := order_followed _ _ hl hok
        have h5 : (layL s).2.2.tns.length ≤ 5 := by
          unfold Lay.big at b3
          simp only [Bool.or_eq_false_iff, decide_eq_false_iff_not] at b3
          omega
        have hle := order_len (layL s).2.2.tns.length ((layL s).2.2.stsAt (digs a.data.toList))
        refine Ordered_told s a (trainsOf s a) w form_ok hE (by rw [f3]; exact hfo) (fun t ht => ?_) (by unfold trainsOf; omega)
        have := foll_lt _ _ _ hfo t ht
        omega
      · exact absurd b2 f2
  · rw [if_pos h0]
    exact Ordered_err s a _ w form_ok (by rw [← hA]; exact h0) (by rw [hA])
theorem trains_small (s a : ByteArray) (h1 : (ordOf s a).1 = true) : (trainsOf s a).length ≤ 1000 ∧ ∀ t, t ∈ trainsOf s a → t < 9 := by
  have hA := ord_eq s a
  have h0 : (ordOf s a).2 = 0 := by
    unfold ordOf at h1 ⊢
    split at h1
    · cases h1
    · rename_i g1
      rw [if_neg g1]
      split at h1
      · cases h1
      · rename_i g2
        rw [if_neg g2]
  have hE : ordOf s a = (true, 0) := Prod.ext h1 h0
  rw [hA] at hE
  obtain ⟨e0, e1⟩ := safe_true hE
  obtain ⟨b1, b2, b3, -⟩ := err0 _ e0
  have hs : s.size ≤ 256 := by simpa using b1
  rcases form_eq s hs with ⟨f1, f2, f3, -⟩ | ⟨f1, f2, f3⟩
  · rw [f3] at e1 b3
    have hl := stateB_len e1
    have hok : (layL s).2.2.okL (digs a.data.toList) = true := by
      have hx : ordOf s a = (true, 0) := Prod.ext h1 h0
      unfold ordOf at hx
      rw [(load_eq s).1, if_neg (by simp [e0]), if_neg (by simp [e1])] at hx
      exact (Prod.mk.inj hx).1
    have hfo := order_followed _ _ hl hok
    have h5 : (layL s).2.2.tns.length ≤ 5 := by
      unfold Lay.big at b3
      simp only [Bool.or_eq_false_iff, decide_eq_false_iff_not] at b3
      omega
    have hle := order_len (layL s).2.2.tns.length ((layL s).2.2.stsAt (digs a.data.toList))
    refine ⟨by unfold trainsOf; omega, fun t ht => ?_⟩
    have := foll_lt _ _ _ hfo t ht
    omega
  · exact absurd b2 f2

set_option maxHeartbeats 400000 in
theorem Orders_any (s a : ByteArray) (w : World) :
    Calls Tryd.prog 3 #[.string s, .string a] w fun e w' => e = .returned (.bool true) ∧ Below w.heap.size w w' := by
  have H1 := hide (lOrder_any s a w (read_paths s) (trains_small s a))
  have H2 := hide (fun (w : World) => ans_right s a w)
  generalize (ansOf s a).1 = x at *
  generalize (ansOf s a).2 = y at *
  go_enter Tryd.func3, Tryd.ntmps3
  go_wp2_with fail
  refine (unhide H1).mono ?_
  rintro e w1 ⟨rfl, hb1⟩
  have HB1 := hide hb1
  clear hb1
  go_wp2_with fail
  refine (num_any _ _).mono ?_
  rintro e w9 ⟨rfl, rfl⟩
  go_wp2_with fail
  refine (unhide H2 _).mono ?_
  rintro e w2 ⟨rfl, hb2⟩
  have HB2 := hide ((unhide HB1).trans (hb2.mono (unhide HB1).size))
  clear hb2
  go_wp2
  go_ret
  exact ⟨rfl, unhide HB2⟩
end Go.Proofs.YtkbpocecbcaiiaaDoor
