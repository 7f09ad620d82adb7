import Derived.Test.YtkbpocecbcaiiaaGreatDoorJ39
import Derived.Test.YtkbpocecbcaiiaaGreatDoorJ29
namespace Go.Proofs.YtkbpocecbcaiiaaGreatDoor
theorem rts_ok (s : ByteArray) (hs : s.size <= 256) : ∀ (f p : Nat), p <= s.size -> s.size < p + f →
  ((rtsL s f p).1 = false -> PS s 6 p = (rtsL s f p).2.1) ∧
  ((rtsL s f p).1 = true -> p < (rtsL s f p).2.1 /\ (rtsL s f p).2.1 <= s.size /\ (∀ i, p <= i -> i < (rtsL s f p).2.1 -> pk s i ≠ 47) ∧
    (z0r 44 [] (sl s p (rtsL s f p).2.1)).map z31 = (rtsL s f p).2.2 /\ (∀ x, x ∈ z0r 44 [] (sl s p (rtsL s f p).2.1) -> 2 <= x.length /\ 97 <= (x.getD 0 0).toNat) ∧
    (∀ r, r ∈ (rtsL s f p).2.2 -> r.path ≠ []) /\ ∃ b : Int, b ≠ 16 /\ PS s 6 p = PS s b (rtsL s f p).2.1 /\ stepS b (pk s (rtsL s f p).2.1) = if pk s (rtsL s f p).2.1 = 47 then 14 else -1) := by
 intro f
 induction f with
 | zero => intro p h1 h2; omega
 | succ f ih =>
  intro p h1 h2
  obtain ⟨r1, r2⟩ := route_ok s p h1 hs
  unfold rtsL
  generalize z1c s p = R at *
  obtain ⟨ok, q, r⟩ := R
  simp only at *
  cases ok with
  | false =>
   simp only [if_true]
   exact ⟨fun _ => r1 rfl, fun h => absurd h (by simp)⟩
  | true =>
   obtain ⟨a1, a2, a3, a4, a5, a6, b, ⟨hb, hst⟩, hps⟩ := r2 rfl
   simp only [Bool.true_eq_false, if_false]
   have hb16 : b ≠ 16 := by rcases hb with rfl | rfl | rfl <;> decide
   have hpart : 2 <= (sl s p q).length /\ 97 <= ((sl s p q).getD 0 0).toNat := by
    rw [sl_len s p q a2, sl_get0 s p q (by omega) a2]
    exact ⟨by omega, a6⟩
   by_cases hc : pk s q = 44
   ·rw [if_pos (by simp [hc])]
    have hq := eq_lt s q 44 hc (by omega)
    obtain ⟨i1, i2⟩ := ih (q + 1) (by omega) (by omega)
    have e6 : PS s b q = PS s 6 (q + 1) := PS_go s b 6 q (by rw [hst, if_pos hc]) (by decide) hq
    generalize rtsL s f (q + 1) = R at *
    obtain ⟨ok2, q2, rs⟩ := R
    simp only at *
    refine ⟨fun h => by rw [hps, e6]; exact i1 h, fun h => ?_⟩
    obtain ⟨c1, c2, c3, c4, c5, c6, b2, c7, c8, c9⟩ := i2 h
    have hsp : z0r 44 [] (sl s p q2) = sl s p q :: z0r 44 [] (sl s (q + 1) q2) :=
     z3e s 44 p q q2 (by omega) (by omega) c2 (fun i x y => bt_ne (by have := a3 i x y; simp; omega)) (bt_eq (by rw [hc]; rfl))
    refine ⟨by omega, c2, fun i x y => ?_, by rw [hsp, List.map_cons, c4, a4], ?_, ?_, b2, c7, by rw [hps, e6, c8], c9⟩
    ·rcases Nat.lt_or_ge q i with h' | h'
     ·exact c3 i (by omega) y
     ·rcases Nat.lt_or_ge i q with h'' | h''
      ·exact (a3 i x h'').2
      ·obtain rfl : i = q := by omega
       omega
    ·rw [hsp]
     intro x hx
     rcases List.mem_cons.1 hx with rfl | hx
     ·exact hpart
     ·exact c5 x hx
    ·intro x hx
     rcases List.mem_cons.1 hx with rfl | hx
     ·exact a5
     ·exact c6 x hx
   ·rw [if_neg (by simp [hc])]
    have hsp : z0r 44 [] (sl s p q) = [sl s p q] := z3y s 44 p q (by omega) a2 (fun i x y => bt_ne (by have := a3 i x y; simp; omega))
    refine ⟨fun h => absurd h (by simp), fun _ => ⟨by show p < q; omega, a2, fun i x y => (a3 i x y).2, by rw [hsp]; simp [a4], ?_, ?_, b, hb16, hps, by rw [hst, if_neg hc]⟩⟩
    ·rw [hsp]
     intro x hx
     simp at hx
     subst hx
     exact hpart
    ·intro x hx
     simp at hx
     subst hx
     exact a5
theorem caps_ok (s : ByteArray) : ∀ (f p : Nat), p <= s.size -> s.size < p + f →
  p <= (capsL s f p).2 /\ (capsL s f p).2 <= s.size /\ (∀ i, p <= i -> i < (capsL s f p).2 -> inB 65 76 (pk s i) = true) /\ (sl s p (capsL s f p).2).map (fun x => x.toNat - 65) = (capsL s f p).1 ∧
  inB 65 76 (pk s (capsL s f p).2) = false /\ ((capsL s f p).1 = [] -> (capsL s f p).2 = p) ∧
  ((capsL s f p).1 ≠ [] -> p < (capsL s f p).2 /\ ∀ a : Int, (a = 15 \/ a = 16) -> PS s a p = PS s 16 (capsL s f p).2) := by
 intro f
 induction f with
 | zero => intro p h1 h2; omega
 | succ f ih =>
  intro p h1 h2
  unfold capsL
  cases hl : inB 65 76 (pk s p) with
  | false =>
   simp only [if_neg (Bool.false_ne_true)]
   refine ⟨Nat.le_refl _, h1, fun i a b => by omega, by rw [sl_nil]; rfl, hl, fun _ => trivial, fun h => absurd rfl h⟩
  | true =>
   simp only [if_pos]
   have hp := in_lt s p 65 76 hl (by omega)
   obtain ⟨i1, i2, i3, i4, i5, i6, i7⟩ := ih (p + 1) (by omega) (by omega)
   have hst : ∀ a : Int, (a = 15 \/ a = 16) -> PS s a p = PS s 16 (p + 1) := by
    rintro a (rfl | rfl)
    ·exact PS_go s 15 16 p (by rw [st_15, hl]; rfl) (by decide) hp
    ·exact PS_go s 16 16 p (by rw [st_16, hl]; rfl) (by decide) hp
   refine ⟨by omega, i2, fun i a b => ?_, ?_, i5, fun h => absurd h (by simp), fun _ => ⟨by omega, fun a ha => ?_⟩⟩
   ·rcases Nat.lt_or_ge p i with h | h
    ·exact i3 i (by omega) b
    ·obtain rfl : i = p := by omega
     exact hl
   ·rw [z2z s p _ (by omega) i2, List.map_cons, i4]; rfl
   ·rw [hst a ha]
    by_cases hn : (capsL s f (p + 1)).1 = []
    ·rw [i6 hn]
    ·exact (i7 hn).2 16 (.inr rfl)
theorem mem_sl (s : ByteArray) (p q : Nat) (hq : q <= s.size) (x : UInt8) (h : x ∈ sl s p q) : ∃ i, p <= i /\ i < q /\ x = bt s i := by
 obtain ⟨j, hj, rfl⟩ := List.getElem_of_mem h
 rw [sl_len s p q hq] at hj
 refine ⟨p + j, by omega, by omega, ?_⟩
 simp [sl, bt, List.getD_eq_getElem?_getD]
 rw [Array.getElem?_eq_getElem (by simp; omega)]
 rfl
theorem train_ok (s : ByteArray) (p : Nat) (hp : p <= s.size) (hs : s.size <= 256) :
  ((z1i s p).1 = false -> PS s 14 p = (z1i s p).2.1) ∧
  ((z1i s p).1 = true -> p + 2 <= (z1i s p).2.1 /\ (z1i s p).2.1 <= s.size /\ (∀ i, p <= i -> i < (z1i s p).2.1 -> pk s i ≠ 44 /\ pk s i ≠ 47) ∧
    trainF (sl s p (z1i s p).2.1) = (z1i s p).2.2 /\ 97 <= pk s p /\ (∀ x, x ∈ (sl s p (z1i s p).2.1).drop 1 -> 65 <= x.toNat) /\ inB 65 76 (pk s (z1i s p).2.1) = false /\ PS s 14 p = PS s 16 (z1i s p).2.1) := by
 unfold z1i
 cases h0 : inB 97 112 (pk s p) with
 | false =>
  simp only [if_true]
  exact ⟨fun _ => z2a s 14 p (by rw [st_14, h0]; rfl) (by decide) hp, fun h => absurd h (by simp)⟩
 | true =>
  have hp0 := in_lt s p 97 112 h0 (by omega)
  have e14 : PS s 14 p = PS s 15 (p + 1) := PS_go s 14 15 p (by rw [st_14, h0]; rfl) (by decide) hp0
  have hb : 97 <= pk s p /\ pk s p <= 112 := by unfold inB at h0; simpa using h0
  simp only [Bool.true_eq_false, if_false]
  obtain ⟨i1, i2, i3, i4, i5, i6, i7⟩ := caps_ok s 300 (p + 1) (by omega) (by omega)
  generalize capsL s 300 (p + 1) = R at *
  obtain ⟨items, q⟩ := R
  simp only [decide_eq_false_iff_not, decide_eq_true_eq] at *
  by_cases h4 : items = []
  ·have := i6 h4
   subst this
   exact ⟨fun _ => by rw [e14]; exact z2a s 15 (p + 1) (by rw [st_15, i5]; rfl) (by decide) i2, fun h => absurd h (by rw [h4]; simp)⟩
  ·obtain ⟨i7a, i7b⟩ := i7 h4
   refine ⟨fun h => absurd (List.length_pos_iff.2 h4) h, fun _ => ⟨by omega, i2, fun i a c => ?_, ?_, hb.1, fun x hx => ?_, i5, by rw [e14]; exact i7b 15 (.inl rfl)⟩⟩
   ·rcases Nat.lt_or_ge p i with h | h
    ·have := i3 i (by omega) c; unfold inB at this; simp at this; omega
    ·obtain rfl : i = p := by omega
     omega
   ·unfold trainF
    rw [sl_get0 s p q (by omega) i2, sl_drop, i4]; rfl
   ·rw [sl_drop] at hx
    obtain ⟨i, a, c, rfl⟩ := mem_sl s _ _ i2 x hx
    have := i3 i a c; unfold inB at this; simp at this; rw [<- pk_bt]; omega
theorem tns_ok (s : ByteArray) (hs : s.size <= 256) : ∀ (f p : Nat), p <= s.size -> s.size < p + f →
  ((tnsL s f p).1 = false -> PS s 14 p = (tnsL s f p).2.1) ∧
  ((tnsL s f p).1 = true -> p < (tnsL s f p).2.1 /\ (tnsL s f p).2.1 <= s.size /\ (∀ i, p <= i -> i < (tnsL s f p).2.1 -> pk s i ≠ 47) ∧
    (z0r 44 [] (sl s p (tnsL s f p).2.1)).map trainF = (tnsL s f p).2.2 /\ (∀ x, x ∈ z0r 44 [] (sl s p (tnsL s f p).2.1) -> 1 <= x.length /\ 97 <= (x.getD 0 0).toNat /\ ∀ y, y ∈ x.drop 1 -> 65 <= y.toNat) ∧
    PS s 14 p = if (tnsL s f p).2.1 = s.size then -1 else ((tnsL s f p).2.1 : Int)) := by
 intro f
 induction f with
 | zero => intro p h1 h2; omega
 | succ f ih =>
  intro p h1 h2
  obtain ⟨r1, r2⟩ := train_ok s p h1 hs
  unfold tnsL
  generalize z1i s p = R at *
  obtain ⟨ok, q, r⟩ := R
  simp only at *
  cases ok with
  | false =>
   simp only [if_true]
   exact ⟨fun _ => r1 rfl, fun h => absurd h (by simp)⟩
  | true =>
   obtain ⟨a1, a2, a3, a4, a5, a6, a7, a8⟩ := r2 rfl
   simp only [Bool.true_eq_false, if_false]
   have hpart : 1 <= (sl s p q).length /\ 97 <= ((sl s p q).getD 0 0).toNat /\ ∀ y, y ∈ (sl s p q).drop 1 -> 65 <= y.toNat := by
    rw [sl_len s p q a2, sl_get0 s p q (by omega) a2]
    exact ⟨by omega, a5, a6⟩
   by_cases hc : pk s q = 44
   ·rw [if_pos (by simp [hc])]
    have hq := eq_lt s q 44 hc (by omega)
    obtain ⟨i1, i2⟩ := ih (q + 1) (by omega) (by omega)
    have e6 : PS s 16 q = PS s 14 (q + 1) := PS_go s 16 14 q (by rw [st_16, a7, hc]; rfl) (by decide) hq
    generalize tnsL s f (q + 1) = R at *
    obtain ⟨ok2, q2, rs⟩ := R
    simp only at *
    refine ⟨fun h => by rw [a8, e6]; exact i1 h, fun h => ?_⟩
    obtain ⟨c1, c2, c3, c4, c5, c6⟩ := i2 h
    have hsp : z0r 44 [] (sl s p q2) = sl s p q :: z0r 44 [] (sl s (q + 1) q2) :=
     z3e s 44 p q q2 (by omega) (by omega) c2 (fun i x y => bt_ne (by have := a3 i x y; simp; omega)) (bt_eq (by rw [hc]; rfl))
    refine ⟨by omega, c2, fun i x y => ?_, by rw [hsp, List.map_cons, c4, a4], ?_, by rw [a8, e6, c6]⟩
    ·rcases Nat.lt_or_ge q i with h' | h'
     ·exact c3 i (by omega) y
     ·rcases Nat.lt_or_ge i q with h'' | h''
      ·exact (a3 i x h'').2
      ·obtain rfl : i = q := by omega
       omega
    ·rw [hsp]
     intro x hx
     rcases List.mem_cons.1 hx with rfl | hx
     ·exact hpart
     ·exact c5 x hx
   ·rw [if_neg (by simp [hc])]
    have hsp : z0r 44 [] (sl s p q) = [sl s p q] := z3y s 44 p q (by omega) a2 (fun i x y => bt_ne (by have := a3 i x y; simp; omega))
    refine ⟨fun h => absurd h (by simp), fun _ => ⟨by show p < q; omega, a2, fun i x y => (a3 i x y).2, by rw [hsp]; simp [a4], ?_, by rw [a8]; exact PS_last s q (by rw [st_16, a7, if_neg (by simp), if_neg hc]) a2⟩⟩
    rw [hsp]
    intro x hx
    simp at hx
    subst hx
    exact hpart
theorem sec_ok (s : ByteArray) : ∀ (f p : Nat), p <= s.size -> s.size < p + f →
  p <= (secL s f p).2 /\ (secL s f p).2 <= s.size /\ (∀ i, p <= i -> i < (secL s f p).2 -> pk s i = 46 \/ pk s i = 121) /\ (sl s p (secL s f p).2).map (· == 121) = (secL s f p).1 ∧
  ¬ (pk s (secL s f p).2 = 46 \/ pk s (secL s f p).2 = 121) /\ ((secL s f p).1 = [] -> (secL s f p).2 = p) ∧
  ((secL s f p).1 ≠ [] -> p < (secL s f p).2 /\ ∀ a : Int, (a = 4 \/ a = 5) -> PS s a p = PS s 5 (secL s f p).2) := by
 intro f
 induction f with
 | zero => intro p h1 h2; omega
 | succ f ih =>
  intro p h1 h2
  unfold secL
  by_cases hl : pk s p = 46 \/ pk s p = 121
  ·simp only [if_pos hl]
   have hp : p < s.size := pk_pos s p (by omega)
   obtain ⟨i1, i2, i3, i4, i5, i6, i7⟩ := ih (p + 1) (by omega) (by omega)
   have hst : ∀ a : Int, (a = 4 \/ a = 5) -> PS s a p = PS s 5 (p + 1) := by
    rintro a (rfl | rfl)
    ·exact PS_go s 4 5 p (by rw [st_4, if_pos hl]) (by decide) hp
    ·exact PS_go s 5 5 p (by rw [st_5, if_pos hl]) (by decide) hp
   refine ⟨by omega, i2, fun i a b => ?_, ?_, i5, fun h => absurd h (by simp), fun _ => ⟨by omega, fun a ha => ?_⟩⟩
   ·rcases Nat.lt_or_ge p i with h | h
    ·exact i3 i (by omega) b
    ·obtain rfl : i = p := by omega
     exact hl
   ·rw [z2z s p _ (by omega) i2, List.map_cons, i4]
    congr 1
    rw [pk_bt, Bool.eq_iff_iff]
    simp only [beq_iff_eq]
    exact ⟨fun h => by rw [h]; rfl, fun h => UInt8.toNat_inj.1 h⟩
   ·rw [hst a ha]
    by_cases hn : (secL s f (p + 1)).1 = []
    ·rw [i6 hn]
    ·exact (i7 hn).2 5 (.inr rfl)
  ·simp only [if_neg hl]
   refine ⟨Nat.le_refl _, h1, fun i a b => by omega, by rw [sl_nil]; rfl, hl, fun _ => trivial, fun h => absurd rfl h⟩
end Go.Proofs.YtkbpocecbcaiiaaGreatDoor
namespace Go.Proofs.YtkbpocecbcaiiaaGreatDoor
theorem times_ok (s : ByteArray) : (z2j s 0 ≠ 3 -> PS s 0 0 = z2j s 0) /\ (z2j s 0 = 3 -> PS s 0 0 = PS s 3 3 /\ 3 <= s.size /\ ∀ i, i < 3 -> 49 <= pk s i /\ pk s i <= 57) := by
 unfold z2j
 cases h0 : inB 49 57 (pk s 0) with
 | false => exact ⟨fun _ => by simp only [if_true]; exact z2a s 0 0 (by rw [st_0, h0]; rfl) (by decide) (Nat.zero_le _), fun h => absurd h (by simp)⟩
 | true =>
  have l0 := in_lt s 0 49 57 h0 (by omega)
  have e0 : PS s 0 0 = PS s 1 1 := PS_go s 0 1 0 (by rw [st_0, h0]; rfl) (by decide) l0
  cases h1 : inB 49 57 (pk s (0 + 1)) with
  | false => exact ⟨fun _ => by simp only [Bool.true_eq_false, if_true, if_false]; rw [e0]; exact z2a s 1 1 (by rw [st_1, show (1 : Nat) = 0 + 1 from rfl, h1]; rfl) (by decide) l0, fun h => absurd h (by simp)⟩
  | true =>
   have l1 := in_lt s 1 49 57 h1 (by omega)
   have e1 : PS s 1 1 = PS s 2 2 := PS_go s 1 2 1 (by rw [st_1, show (1 : Nat) = 0 + 1 from rfl, h1]; rfl) (by decide) l1
   cases h2 : inB 49 57 (pk s (0 + 2)) with
   | false => exact ⟨fun _ => by simp only [Bool.true_eq_false, if_true, if_false]; rw [e0, e1]; exact z2a s 2 2 (by rw [st_2, show (2 : Nat) = 0 + 2 from rfl, h2]; rfl) (by decide) l1, fun h => absurd h (by simp)⟩
   | true =>
    have l2 := in_lt s 2 49 57 h2 (by omega)
    have e2 : PS s 2 2 = PS s 3 3 := PS_go s 2 3 2 (by rw [st_2, show (2 : Nat) = 0 + 2 from rfl, h2]; rfl) (by decide) l2
    refine ⟨fun h => absurd rfl h, fun _ => ⟨by rw [e0, e1, e2], by omega, fun i hi => ?_⟩⟩
    unfold inB at h0 h1 h2
    simp at h0 h1 h2
    match i, hi with
    | 0, _ => omega
    | 1, _ => omega
    | 2, _ => omega
theorem lay_ok (s : ByteArray) (hs : s.size <= 256) :
  (((layL s).1 && decide ((layL s).2.1 = s.size)) = false -> PS s 0 0 = (layL s).2.1) ∧
  (((layL s).1 && decide ((layL s).2.1 = s.size)) = true -> PS s 0 0 = -1 /\ layOf s.data.toList = (layL s).2.2 /\ Form s.data.toList) := by
 unfold layL
 obtain ⟨t1, t2⟩ := times_ok s
 by_cases h3 : z2j s 0 = 3
 ·rw [if_neg (by simpa using h3)]
  obtain ⟨e0, l3, hd⟩ := t2 h3
  by_cases h47 : pk s 3 = 47
  ·rw [if_neg (by simp [h47])]
   have l4 := eq_lt s 3 47 h47 (by omega)
   have e3 : PS s 3 3 = PS s 4 4 := PS_go s 3 4 3 (by rw [st_3, if_pos h47]) (by decide) l4
   obtain ⟨s1, s2, s3, s4, s5, s6, s7⟩ := sec_ok s 300 4 (by omega) (by omega)
   generalize secL s 300 4 = R at *
   obtain ⟨bs, q1⟩ := R
   simp only at *
   by_cases hbs : bs = []
   ·rw [if_pos (by rw [hbs]; rfl)]
    have := s6 hbs
    subst this
    exact ⟨fun _ => by rw [e0, e3]; exact z2a s 4 4 (by rw [st_4, if_neg s5]) (by decide) s2, fun h => absurd h (by simp)⟩
   ·rw [if_neg (by simpa using hbs)]
    obtain ⟨s7a, s7b⟩ := s7 hbs
    have e4 := s7b 4 (.inl rfl)
    by_cases h47b : pk s q1 = 47
    ·rw [if_neg (by simp [h47b])]
     have l5 := eq_lt s q1 47 h47b (by omega)
     have e5 : PS s 5 q1 = PS s 6 (q1 + 1) := PS_go s 5 6 q1 (by rw [st_5, if_neg s5, if_pos h47b]) (by decide) l5
     obtain ⟨r1, r2⟩ := rts_ok s hs 300 (q1 + 1) (by omega) (by omega)
     generalize rtsL s 300 (q1 + 1) = R at *
     obtain ⟨ok, q2, rs⟩ := R
     simp only at *
     cases ok with
     | false =>
      simp only [if_true]
      exact ⟨fun _ => by rw [e0, e3, e4, e5]; exact r1 rfl, fun h => absurd h (by simp)⟩
     | true =>
      simp only [Bool.true_eq_false, if_false]
      obtain ⟨a1, a2, a3, a4, a5, a6, b, a7, a8, a9⟩ := r2 rfl
      by_cases h47c : pk s q2 = 47
      ·rw [if_neg (by simp [h47c])]
       have l6 := eq_lt s q2 47 h47c (by omega)
       have e6 : PS s b q2 = PS s 14 (q2 + 1) := PS_go s b 14 q2 (by rw [a9, if_pos h47c]) (by decide) l6
       obtain ⟨u1, u2⟩ := tns_ok s hs 300 (q2 + 1) (by omega) (by omega)
       generalize tnsL s 300 (q2 + 1) = R at *
       obtain ⟨ok, q3, ts⟩ := R
       simp only at *
       cases ok with
       | false =>
        simp only [Bool.false_and]
        exact ⟨fun _ => by rw [e0, e3, e4, e5, a8, e6]; exact u1 rfl, fun h => absurd h (by simp)⟩
       | true =>
        obtain ⟨b1, b2, b3, b4, b5, b6⟩ := u2 rfl
        simp only [Bool.true_and, decide_eq_false_iff_not, decide_eq_true_eq]
        refine ⟨fun h => by rw [e0, e3, e4, e5, a8, e6, b6, if_neg h], fun h => ?_⟩
        have hps : PS s 0 0 = -1 := by rw [e0, e3, e4, e5, a8, e6, b6, if_pos h]
        subst h
        have hsplit : z0r 47 [] s.data.toList = [sl s 0 3, sl s 4 q1, sl s (q1 + 1) q2, sl s (q2 + 1) s.size] := by
         rw [<- sl_all s, z3e s 47 0 3 s.size (by omega) (by omega) (Nat.le_refl _) (fun i x y => bt_ne (by have := hd i y; simp; omega)) (bt_eq (by rw [h47]; rfl)),
          z3e s 47 4 q1 s.size (by omega) (by omega) (Nat.le_refl _) (fun i x y => bt_ne (by have := s3 i x y; simp; omega)) (bt_eq (by rw [h47b]; rfl)),
          z3e s 47 (q1 + 1) q2 s.size (by omega) (by omega) (Nat.le_refl _) (fun i x y => bt_ne (by have := a3 i x y; simp; omega)) (bt_eq (by rw [h47c]; rfl)),
          z3y s 47 (q2 + 1) s.size (by omega) (Nat.le_refl _) (fun i x y => bt_ne (by have := b3 i x y; simp; omega))]
        have hlay : layOf s.data.toList = ⟨pk s 0 - 48, pk s 1 - 48, pk s 2 - 48, bs, rs, ts⟩ := by
         unfold layOf
         rw [hsplit]
         rw [<- s4, <- a4, <- b4]
         rfl
        refine ⟨hps, hlay, by simp; omega, ?_, ?_, ?_, sl s 0 3, sl s 4 q1, sl s (q1 + 1) q2, sl s (q2 + 1) s.size, hsplit, a5, b5, ?_⟩
        ·have := (hd 0 (by omega)).1; rw [pk_bt] at this; unfold bt at this; omega
        ·have := (hd 1 (by omega)).1; rw [pk_bt] at this; unfold bt at this; omega
        ·have := (hd 2 (by omega)).1; rw [pk_bt] at this; unfold bt at this; omega
        ·rw [hlay]; exact a6
      ·rw [if_pos (by simp [h47c])]
       exact ⟨fun _ => by rw [e0, e3, e4, e5, a8]; exact z2a s b q2 (by rw [a9, if_neg h47c]) a7 a2, fun h => absurd h (by simp)⟩
    ·rw [if_pos (by simp [h47b])]
     exact ⟨fun _ => by rw [e0, e3, e4]; exact z2a s 5 q1 (by rw [st_5, if_neg s5, if_neg h47b]) (by decide) s2, fun h => absurd h (by simp)⟩
  ·rw [if_pos (by simp [h47])]
   exact ⟨fun _ => by rw [e0]; exact z2a s 3 3 (by rw [st_3, if_neg h47]) (by decide) l3, fun h => absurd h (by simp)⟩
 ·rw [if_pos (by simpa using h3)]
  exact ⟨fun _ => t1 h3, fun h => absurd h (by simp)⟩
theorem PS_all (s : ByteArray) : PS s 0 0 = z16 0 0 s.data.toList := by unfold PS; rw [List.drop_zero]
theorem form_ok : FormOK := by
 intro l hl hp
 have hs : (⟨l.toArray⟩ : ByteArray).data.toList = l := by simp
 have hz : (⟨l.toArray⟩ : ByteArray).size <= 256 := by show l.toArray.size <= 256; simpa using hl
 obtain ⟨h1, h2⟩ := lay_ok ⟨l.toArray⟩ hz
 rw [PS_all, hs] at h1 h2
 cases h : ((layL ⟨l.toArray⟩).1 && decide ((layL ⟨l.toArray⟩).2.1 = (⟨l.toArray⟩ : ByteArray).size)) with
 | true => exact (h2 h).2.2
 | false =>
  have := h1 h
  rw [hp] at this
  omega
theorem form_eq (s : ByteArray) (hs : s.size <= 256) : ((z1t s).1 = 0 /\ z16 0 0 s.data.toList = -1 /\ layOf s.data.toList = (layL s).2.2 /\ (layL s).2.2.Paths) ∨
  ((z1t s).1 = 2 /\ z16 0 0 s.data.toList ≠ -1 /\ ((z1t s).2 : Int) = z16 0 0 s.data.toList) := by
 obtain ⟨h1, h2⟩ := lay_ok s hs
 unfold z1t
 rw [if_neg (by omega)]
 cases h : ((layL s).1 && decide ((layL s).2.1 = s.size)) with
 | true =>
  left
  obtain ⟨a, b, c⟩ := h2 h
  rw [PS_all] at a
  obtain ⟨-, -, -, -, p0, p1, p2, p3, -, -, -, hP⟩ := c
  rw [b] at hP
  exact ⟨rfl, a, b, hP⟩
 | false =>
  right
  have := h1 h
  rw [PS_all] at this
  refine ⟨rfl, by rw [this]; omega, by simp [this]⟩
theorem z38 (s : ByteArray) : (z1t s).1 = 0 -> (layL s).2.2.Paths := by
 intro h
 by_cases hs : s.size <= 256
 ·rcases form_eq s hs with ⟨-, -, -, h'⟩ | ⟨h', -⟩
  ·exact h'
  ·rw [h] at h'; cases h'
 ·unfold z1t at h
  rw [if_pos (by omega)] at h
  cases h
end Go.Proofs.YtkbpocecbcaiiaaGreatDoor
namespace Go.Proofs.YtkbpocecbcaiiaaGreatDoor
theorem dup_iff (l : List Nat) : (∀ i, i < l.length -> (l.filter (· == l.getD i 0)).length <= 1) ↔ (∀ i, i < l.length -> (l.take i).contains (l.getD i 0) = false) := by
 constructor
 ·intro h i hi
  have h1 := h i hi
  cases hc : (l.take i).contains (l.getD i 0) with
  | false => rfl
  | true =>
   exfalso
   have hx : l.getD i 0 = l[i] := by simp [List.getD_eq_getElem?_getD, List.getElem?_eq_getElem hi]
   rw [hx] at h1 hc
   have hsp : l = l.take i ++ l[i] :: l.drop (i + 1) := by
    rw [<- List.drop_eq_getElem_cons hi, List.take_append_drop]
   obtain ⟨y, hy⟩ : ∃ y, y = l[i] := ⟨_, rfl⟩
   rw [<- hy] at h1 hc hsp
   have hpos : 0 < ((l.take i).filter (· == y)).length := by
    apply List.length_pos_iff.2
    intro hn
    rw [List.filter_eq_nil_iff] at hn
    exact hn y (by simpa using hc) (by simp)
   have h2 : (l.filter (· == y)).length = ((l.take i).filter (· == y)).length + (1 + ((l.drop (i + 1)).filter (· == y)).length) := by
    conv => lhs; rw [hsp]
    rw [List.filter_append, List.length_append, List.filter_cons]
    simp [Nat.add_comm]
   omega
 ·intro h i hi
  generalize l.getD i 0 = x
  have key : ∀ k, k <= l.length -> ((l.take k).filter (· == x)).length <= 1 := by
   intro k
   induction k with
   | zero => intro _; simp
   | succ k ih =>
    intro hk
    have hk' : k < l.length := by omega
    rw [<- List.take_append_getElem hk', List.filter_append, List.length_append]
    have := ih (by omega)
    by_cases hx : l[k] = x
    ·have hc := h k hk'
     rw [show l.getD k 0 = l[k] by simp [List.getD_eq_getElem?_getD, List.getElem?_eq_getElem hk'], hx] at hc
     have hn : (l.take k).filter (· == x) = [] := by
      rw [List.filter_eq_nil_iff]
      intro a ha e
      have : a = x := by simpa using e
      subst this
      rw [List.contains_iff_mem.2 ha] at hc
      cases hc
     rw [hn]
     simp only [List.length_nil, Nat.zero_add]
     exact List.length_filter_le _ _
    ·have : [l[k]].filter (· == x) = [] := by simp [hx]
     rw [this]; simpa using ih (by omega)
  have := key l.length (Nat.le_refl _)
  rwa [List.take_length] at this
theorem secs_getD (p : List (Nat × Nat)) (i : Nat) : (secs p).getD i 0 = (p.getD i (0, 0)).1 := by
 simp only [secs, List.getD_eq_getElem?_getD, List.getElem?_map]
 cases p[i]? <;> rfl
theorem secs_take (p : List (Nat × Nat)) (i : Nat) : secs (p.take i) = (secs p).take i := by simp [secs]
theorem z1m (p : List (Nat × Nat)) : (secs p).length = p.length := by simp [secs]
theorem dup_p (p : List (Nat × Nat)) : (∀ i, i < p.length -> ¬ 1 < ((secs p).filter (· == (p.getD i (0, 0)).1)).length) ↔ (∀ i, i < p.length -> has (p.take i) (p.getD i (0, 0)).1 = false) := by
 have h := dup_iff (secs p)
 rw [z1m] at h
 simp only [secs_getD] at h
 unfold has
 simp only [secs_take]
 rw [<- h]
 exact ⟨fun a i hi => by have := a i hi; omega, fun a i hi => by have := a i hi; omega⟩
theorem route_eq (L : Lay) (r : Rt) : L.routeOK r = !L.crooked r := by
 rw [Bool.eq_iff_iff]
 unfold Lay.routeOK Lay.crooked
 simp only [Bool.and_eq_true, decide_eq_true_eq, Bool.not_eq_true', Bool.or_eq_false_iff, decide_eq_false_iff_not, List.all_eq_true, List.any_eq_false, List.mem_range, Nat.not_le]
 unfold Lay.pOK Lay.fOK Lay.badPath Lay.badFlank Lay.itemOK
 simp only [Bool.and_eq_true, decide_eq_true_eq, Bool.not_eq_true', Bool.or_eq_true, beq_iff_eq, not_or, Nat.not_le, bne_iff_ne, ne_eq, Decidable.not_not]
 have d1 := dup_p r.path
 have d2 := dup_p r.flank
 have hsw : ∀ x, L.sw.getD x false = true -> x < L.sw.length := by
  intro x hx
  rcases Nat.lt_or_ge x L.sw.length with h | h
  ·exact h
  ·rw [List.getD_eq_getElem?_getD, List.getElem?_eq_none h] at hx
   cases hx
 constructor
 ·rintro ⟨⟨h1, h2⟩, h3⟩
  have g1 := d1.2 (fun i hi => (h2 i hi).2)
  have g2 := d2.2 (fun i hi => (h3 i hi).1.2)
  refine ⟨⟨h1, fun i hi => ?_⟩, fun i hi => ?_⟩
  ·obtain ⟨⟨⟨a, b⟩, c⟩, d⟩ := h2 i hi
   exact ⟨⟨⟨a, g1 i hi⟩, by simpa using c⟩, b⟩
  ·obtain ⟨⟨a, b⟩, c, d⟩ := h3 i hi
   exact ⟨⟨⟨⟨hsw _ c, g2 i hi⟩, by rw [a]; simp⟩, by rw [d]; simp⟩, by rw [c]; simp⟩
 ·rintro ⟨⟨h1, h2⟩, h3⟩
  have g1 := d1.1 (fun i hi => (h2 i hi).1.1.2)
  have g2 := d2.1 (fun i hi => (h3 i hi).1.1.1.2)
  refine ⟨⟨h1, fun i hi => ?_⟩, fun i hi => ?_⟩
  ·obtain ⟨⟨⟨a, b⟩, c⟩, d⟩ := h2 i hi
   exact ⟨⟨⟨a, d⟩, by simpa using c⟩, g1 i hi⟩
  ·obtain ⟨⟨⟨⟨a, b⟩, c⟩, d⟩, e⟩ := h3 i hi
   exact ⟨⟨by simpa using c, g2 i hi⟩, by simpa using e, by simpa using d⟩
theorem train_eq (L : Lay) (k : Nat) (hk : k < L.tns.length) : L.trainOK (L.tn k) (L.tns.take k) = !L.stray k := by
 have ha : (L.tns.take k).any (fun o => o.start == (L.tn k).start) = (List.range k).any (fun i => (L.tn i).start == (L.tn k).start) := by
  rw [Bool.eq_iff_iff]
  simp only [List.any_eq_true, List.mem_range]
  constructor
  ·rintro ⟨o, ho, e⟩
   obtain ⟨j, hj, rfl⟩ := List.getElem_of_mem ho
   have hj' : j < k := by simp at hj; omega
   refine ⟨j, hj', ?_⟩
   rw [List.getElem_take] at e
   simpa [Lay.tn, List.getD_eq_getElem?_getD, List.getElem?_eq_getElem (show j < L.tns.length by omega)] using e
  ·rintro ⟨j, hj, e⟩
   refine ⟨L.tns[j]'(by omega), ?_, ?_⟩
   ·rw [List.mem_take_iff_getElem]
    exact ⟨j, by omega, rfl⟩
   ·simpa [Lay.tn, List.getD_eq_getElem?_getD, List.getElem?_eq_getElem (show j < L.tns.length by omega)] using e
 unfold Lay.trainOK Lay.stray
 rw [ha]
 simp only [Bool.not_or, Bool.not_not]
 rw [show (!decide (L.sw.length <= (L.tn k).start)) = decide ((L.tn k).start < L.sw.length) by rw [<- decide_not]; simp]
theorem z3z {p q : Nat -> Bool} : ∀ (l : List Nat), (∀ x, x ∈ l -> p x = q x) -> l.find? p = l.find? q
 | [], _ => rfl
 | a :: l, h => by
  rw [List.find?_cons, List.find?_cons, h a (by simp), z3z l (fun x hx => h x (List.mem_cons_of_mem _ hx))]
theorem check_eq (L : Lay) : L.checkOf = if L.big then (3, 0) else match (List.range L.rts.length).find? (fun i => L.crooked (L.rt i)) with
  | some i => (4, i)
  | none => match (List.range L.tns.length).find? (fun i => L.stray i) with
   | some i => (5, i)
   | none => (0, 0) := by
 unfold Lay.checkOf
 rw [z3z (p := fun i => !L.routeOK (L.rt i)) (q := fun i => L.crooked (L.rt i)) _ (fun x _ => by simp only [route_eq, Bool.not_not]),
  z3z (p := fun i => !L.trainOK (L.tn i) (L.tns.take i)) (q := fun i => L.stray i) (List.range L.tns.length) (fun x hx => by simp only [train_eq L x (List.mem_range.1 hx), Bool.not_not])]
 rfl
end Go.Proofs.YtkbpocecbcaiiaaGreatDoor
namespace Go.Proofs.YtkbpocecbcaiiaaGreatDoor
theorem ne_none_find {p : Nat -> Bool} {n i : Nat} (hi : i < n) (hp : p i = true) : (List.range n).find? p ≠ none := by
 intro h
 rw [List.find?_eq_none] at h
 exact h i (List.mem_range.2 hi) hp
def RelS (L : Lay) (at_ : List Nat) (l : List St) : Prop := l.length = L.tns.length /\ at_.length = L.tns.length /\ ∀ i (h : i < l.length),
 (l[i].done = false -> L.doneB at_ i = false /\ l[i].holds = L.holdsAt (L.tn i) (at_.getD i 0) /\ l[i].ahead = L.aheadAt ((L.tn i).jny.drop (at_.getD i 0))) 
theorem holds_some (L : Lay) (at_ : List Nat) (i : Nat) (h : L.doneB at_ i = false) : L.holds at_ i = some (L.holdsAt (L.tn i) (at_.getD i 0)) := by
 unfold Lay.holds Lay.holdsAt
 rw [h]
 simp only [Bool.false_eq_true, if_false]
 split <;> rfl
theorem hits_iff (L : Lay) (js : List Nat) (h : Nat) : (∀ r, r ∈ js -> hits (secs (L.rt r).path) (some h) = false) ↔ (L.aheadAt js).contains h = false := by
 unfold Lay.aheadAt hits
 simp only [List.contains_eq_mem, decide_eq_false_iff_not, List.mem_flatMap, not_exists, not_and]
theorem may_of_runs (L : Lay) (at_ : List Nat) (l : List St) (hR : RelS L at_ l) (t : Nat) (ht : t < l.length) (hd : l[t].done = false) (hr : L.runsB at_ t = true) : z24 l t = true := by
 unfold z24
 rw [List.all_eq_true]
 intro i hi
 have hi' := List.mem_range.1 hi
 rw [stD l i hi', stD l t ht]
 cases hdi : l[i].done with
 | true => simp
 | false =>
  by_cases hit : i = t
  ·simp [hit]
  ·obtain ⟨a1, a2, a3⟩ := hR.2.2 i hi' hdi
   obtain ⟨b1, b2, b3⟩ := hR.2.2 t ht hd
   have : l[t].ahead.contains l[i].holds = false := by
    rw [b3, a2, <- hits_iff]
    intro r hr'
    unfold Lay.runsB at hr
    rw [List.all_eq_true] at hr
    have h1 := hr r hr'
    rw [List.all_eq_true] at h1
    have h2 := h1 i (List.mem_range.2 (by rw [hR.2.1, <- hR.1]; exact hi'))
    rw [holds_some L at_ i a1] at h2
    simpa [hit] using h2
   rw [this]; simp
theorem runs_of_may (L : Lay) (at_ : List Nat) (l : List St) (hR : RelS L at_ l) (hx : ∀ i (h : i < l.length), l[i].done = true -> L.doneB at_ i = true) (t : Nat) (ht : t < l.length) (hd : l[t].done = false) (hm : z24 l t = true) : L.runsB at_ t = true := by
 unfold Lay.runsB
 rw [List.all_eq_true]
 intro r hr
 rw [List.all_eq_true]
 intro i hi
 have hi' : i < l.length := by rw [hR.1, <- hR.2.1]; exact List.mem_range.1 hi
 by_cases hit : i = t
 ·simp [hit]
 ·cases hdi : l[i].done with
  | true =>
   have : L.holds at_ i = none := by unfold Lay.holds; rw [hx i hi' hdi]; rfl
   rw [this]; simp [hits]
  | false =>
   obtain ⟨a1, a2, a3⟩ := hR.2.2 i hi' hdi
   obtain ⟨b1, b2, b3⟩ := hR.2.2 t ht hd
   unfold z24 at hm
   rw [List.all_eq_true] at hm
   have h1 := hm i (List.mem_range.2 hi')
   rw [stD l i hi', stD l t ht, hdi] at h1
   have h2 : l[t].ahead.contains l[i].holds = false := by simpa [hit] using h1
   rw [b3, a2, <- hits_iff] at h2
   rw [holds_some L at_ i a1, h2 r hr]; simp
theorem z3f (L : Lay) (at_ : List Nat) (t i : Nat) : (L.withN at_ t).getD i 0 = if i = t /\ t < at_.length then (L.tn t).jny.length else at_.getD i 0 := by
 unfold Lay.withN
 simp only [List.getD_eq_getElem?_getD, List.getElem?_set]
 by_cases h : t = i
 ·subst h
  by_cases h2 : t < at_.length
  ·simp [h2]
  ·simp [h2]
 ·rw [if_neg h, if_neg (by omega)]
theorem withN_done (L : Lay) (at_ : List Nat) (t : Nat) (ht : t < at_.length) : L.doneB (L.withN at_ t) t = true := by
 unfold Lay.doneB; rw [z3f, if_pos ⟨rfl, ht⟩]; simp
theorem withN_len (L : Lay) (at_ : List Nat) (t : Nat) : (L.withN at_ t).length = at_.length := by simp [Lay.withN]
theorem sound_done (L : Lay) : ∀ (f : Nat) (at_ : List Nat) (E : List St), RelS L at_ E -> z32 E = none -> L.soundF f at_ = true -> E.all (·.done) = true := by
 have hall : ∀ (at_ : List Nat) (E : List St), RelS L at_ E -> L.allDone at_ = true -> E.all (·.done) = true := by
  intro at_ E hR h
  rw [List.all_eq_true]
  intro x hx
  obtain ⟨i, hi, rfl⟩ := List.getElem_of_mem hx
  cases hd : E[i].done with
  | true => rfl
  | false =>
   have h1 := (hR.2.2 i hi hd).1
   unfold Lay.allDone at h
   rw [List.all_eq_true] at h
   rw [h i (List.mem_range.2 (by rw [hR.2.1, <- hR.1]; exact hi))] at h1
   cases h1
 intro f
 induction f with
 | zero => intro at_ E hR _ h; exact hall at_ E hR h
 | succ f ih =>
  intro at_ E hR hf h
  unfold Lay.soundF at h
  rw [Bool.or_eq_true] at h
  rcases h with h | h
  ·exact hall at_ E hR h
  ·rw [List.any_eq_true] at h
   obtain ⟨t, ht, h⟩ := h
   have ht0 := List.mem_range.1 ht
   have ht' : t < E.length := by rw [hR.1, <- hR.2.1]; exact ht0
   simp only [Bool.and_eq_true, Bool.not_eq_true'] at h
   obtain ⟨⟨h1, h2⟩, h3⟩ := h
   cases hd : E[t].done with
   | false =>
    exfalso
    refine ne_none_find (p := fun i => !(E.getD i ⟨false, 0, []⟩).done && z24 E i) ht' ?_ hf
    simp only [stD E t ht', hd, may_of_runs L at_ E hR t ht' hd h2]; rfl
   | true =>
    refine ih (L.withN at_ t) E ⟨hR.1, by rw [withN_len]; exact hR.2.1, fun i hi hdi => ?_⟩ hf h3
    have hit : i ≠ t := by intro e; subst e; rw [hd] at hdi; cases hdi
    obtain ⟨a1, a2, a3⟩ := hR.2.2 i hi hdi
    have e : (L.withN at_ t).getD i 0 = at_.getD i 0 := by rw [z3f, if_neg (by omega)]
    rw [e]
    exact ⟨by unfold Lay.doneB at a1 ⊢; rw [e]; exact a1, a2, a3⟩
theorem markD_get (l : List St) (i j : Nat) (hi : i < l.length) (hj : j < l.length) : (markD l i)[j]'(by rw [z1y]; exact hj) = if i = j then ⟨true, l[i].holds, l[i].ahead⟩ else l[j] := by
 unfold markD
 rw [List.getElem_set]
 split <;> rename_i h
 ·rw [stD l i hi]
 ·rfl
theorem orderL_end : ∀ (f : Nat) (l : List St), z37 l <= f -> z32 (z19 f l).2 = none /\ (z19 f l).2.length = l.length /\ ∀ (i : Nat) (x : St), (z19 f l).2[i]? = some x -> x.done = false -> l[i]? = some x := by
 intro f
 induction f with
 | zero =>
  intro l hu
  refine ⟨?_, rfl, fun i x h _ => h⟩
  cases hf : z32 l with
  | none => exact hf
  | some i => have := z3m hf; omega
 | succ f ih =>
  intro l hu
  cases hf : z32 l with
  | none =>
   rw [show z19 (f + 1) l = ([], l) by simp [z19, hf]]
   exact ⟨hf, rfl, fun i x h _ => h⟩
  | some k =>
   rw [show z19 (f + 1) l = (k :: (z19 f (markD l k)).1, (z19 f (markD l k)).2) by simp [z19, hf]]
   have hm := z3m hf
   obtain ⟨hk, -, -⟩ := z2k hf
   obtain ⟨h1, h2, h3⟩ := ih (markD l k) (by omega)
   refine ⟨h1, by rw [h2, z1y], fun i x h hd => ?_⟩
   have e := h3 i x h hd
   unfold markD at e
   rw [List.getElem?_set] at e
   by_cases hki : k = i
   ·rw [if_pos hki, if_pos hk] at e
    simp only [Option.some.injEq] at e
    rw [<- e] at hd
    cases hd
   ·rw [if_neg hki] at e
    exact e
theorem done_sound (L : Lay) : ∀ (f : Nat) (at_ : List Nat) (l : List St), RelS L at_ l -> (∀ i (h : i < l.length), l[i].done = true -> L.doneB at_ i = true) -> (z19 f l).2.all (·.done) = true -> L.soundF f at_ = true := by
 have hall : ∀ (at_ : List Nat) (l : List St), RelS L at_ l -> (∀ i (h : i < l.length), l[i].done = true -> L.doneB at_ i = true) -> l.all (·.done) = true -> L.allDone at_ = true := by
  intro at_ l hR hx h
  unfold Lay.allDone
  rw [List.all_eq_true]
  intro i hi
  have hi' : i < l.length := by rw [hR.1, <- hR.2.1]; exact List.mem_range.1 hi
  rw [List.all_eq_true] at h
  exact hx i hi' (h _ (List.getElem_mem hi'))
 intro f
 induction f with
 | zero => intro at_ l hR hx h; exact hall at_ l hR hx h
 | succ f ih =>
  intro at_ l hR hx h
  unfold z19 at h
  unfold Lay.soundF
  cases hf : z32 l with
  | none =>
   rw [hf] at h
   rw [hall at_ l hR hx h]; rfl
  | some k =>
   rw [hf] at h
   simp only at h
   obtain ⟨hk, hd, hm⟩ := z2k hf
   have hk' : k < at_.length := by rw [hR.2.1, <- hR.1]; exact hk
   rw [Bool.or_eq_true]
   right
   rw [List.any_eq_true]
   refine ⟨k, List.mem_range.2 hk', ?_⟩
   have h1 := (hR.2.2 k hk hd).1
   have h2 := runs_of_may L at_ l hR hx k hk hd hm
   have h3 := ih (L.withN at_ k) (markD l k) ⟨by rw [z1y]; exact hR.1, by rw [withN_len]; exact hR.2.1, fun i hi hdi => ?_⟩ (fun i hi hdi => ?_) h
   ·rw [h1, h2, h3]; rfl
   ·have hi' : i < l.length := by rw [z1y] at hi; exact hi
    rw [markD_get l k i hk hi'] at hdi ⊢
    by_cases hki : k = i
    ·rw [if_pos hki] at hdi; cases hdi
    ·rw [if_neg hki] at hdi ⊢
     obtain ⟨a1, a2, a3⟩ := hR.2.2 i hi' hdi
     have e : (L.withN at_ k).getD i 0 = at_.getD i 0 := by rw [z3f, if_neg (by omega)]
     rw [e]
     exact ⟨by unfold Lay.doneB at a1 ⊢; rw [e]; exact a1, a2, a3⟩
   ·have hi' : i < l.length := by rw [z1y] at hi; exact hi
    rw [markD_get l k i hk hi'] at hdi
    by_cases hki : k = i
    ·subst hki; exact withN_done L at_ k hk'
    ·rw [if_neg hki] at hdi
     have := hx i hi' hdi
     have e : (L.withN at_ k).getD i 0 = at_.getD i 0 := by rw [z3f, if_neg (by omega)]
     unfold Lay.doneB at this ⊢; rw [e]; exact this
theorem sts_rel (L : Lay) (at_ : List Nat) (hl : at_.length = L.tns.length) : RelS L at_ (L.stsAt at_) /\ ∀ i (h : i < (L.stsAt at_).length), (L.stsAt at_)[i].done = true -> L.doneB at_ i = true := by
 have hg : ∀ i (h : i < (L.stsAt at_).length), (L.stsAt at_)[i] = L.stAt (L.tn i) (at_.getD i 0) := by intro i h; simp [Lay.stsAt]
 refine ⟨⟨by simp [Lay.stsAt], hl, fun i h hd => ?_⟩, fun i h hd => ?_⟩
 ·rw [hg i h] at hd ⊢
  unfold Lay.stAt at hd ⊢
  simp only [decide_eq_false_iff_not] at hd
  refine ⟨by unfold Lay.doneB; simpa using hd, ?_, rfl⟩
  simp only
  rw [Nat.min_eq_right (by omega)]
 ·rw [hg i h] at hd
  unfold Lay.stAt at hd
  unfold Lay.doneB
  exact hd
theorem ok_sound (L : Lay) (at_ : List Nat) (hl : at_.length = L.tns.length) : (z19 L.tns.length (L.stsAt at_)).2.all (·.done) = L.sound at_ := by
 obtain ⟨hR, hx⟩ := sts_rel L at_ hl
 have hu : z37 (L.stsAt at_) <= L.tns.length := by have := undoneS_le (L.stsAt at_); rw [hR.1] at this; exact this
 obtain ⟨h1, h2, h3⟩ := orderL_end L.tns.length (L.stsAt at_) hu
 rw [Bool.eq_iff_iff]
 unfold Lay.sound
 rw [hl]
 constructor
 ·exact done_sound L L.tns.length at_ (L.stsAt at_) hR hx
 ·intro h
  refine sound_done L L.tns.length at_ _ ⟨by rw [h2]; exact hR.1, hl, fun i hi hd => ?_⟩ h1 h
  have hi' : i < (L.stsAt at_).length := by rw [<- h2]; exact hi
  have e := h3 i _ (List.getElem?_eq_getElem hi) hd
  rw [List.getElem?_eq_getElem hi'] at e
  simp only [Option.some.injEq] at e
  rw [<- e] at hd ⊢
  exact hR.2.2 i hi' hd
end Go.Proofs.YtkbpocecbcaiiaaGreatDoor
namespace Go.Proofs.YtkbpocecbcaiiaaGreatDoor
theorem okL_eq (L : Lay) (at_ : List Nat) (hl : at_.length = L.tns.length) : L.okL at_ = L.sound at_ := ok_sound L at_ hl
theorem load_eq (s : ByteArray) : (z25 s).1 = (errOf s.data.toList).1 /\ ((z25 s).2 : Int) = (errOf s.data.toList).2 := by
 have hlen : s.data.toList.length = s.size := by simp
 unfold z25 errOf
 rw [hlen]
 by_cases hs : 256 < s.size
 ·have hf : z1t s = (1, 0) := by unfold z1t; rw [if_pos hs]
  rw [if_pos hs, hf]
  exact ⟨rfl, rfl⟩
 ·rw [if_neg hs]
  rcases form_eq s (by omega) with ⟨f1, f2, f3, -⟩ | ⟨f1, f2, f3⟩
  ·have g1 : ¬ (z1t s).1 ≠ 0 := by simpa using f1
   have g2 : ¬ z16 0 0 s.data.toList ≠ -1 := by simpa using f2
   rw [if_neg g1, if_neg g2, f3, check_eq]
   generalize (layL s).2.2 = L
   cases hb : L.big with
   | true => exact ⟨rfl, rfl⟩
   | false =>
    simp only [Bool.false_eq_true, if_false]
    cases h4 : (List.range L.rts.length).find? (fun i => L.crooked (L.rt i)) with
    | some i => exact ⟨rfl, rfl⟩
    | none =>
     simp only
     cases h5 : (List.range L.tns.length).find? (fun i => L.stray i) with
     | some i => exact ⟨rfl, rfl⟩
     | none =>
      simp only
      rw [okL_eq L _ (by simp)]
      cases L.sound (List.replicate L.tns.length 0) with
      | true => exact ⟨rfl, rfl⟩
      | false => exact ⟨rfl, rfl⟩
  ·have g1 : (z1t s).1 ≠ 0 := by rw [f1]; decide
   rw [if_pos g1, if_pos f2]
   exact ⟨f1, f3⟩
theorem ord_eq (s a : ByteArray) : ordOf s a = z3u s.data.toList a.data.toList := by
 obtain ⟨e1, -⟩ := load_eq s
 unfold ordOf z3u
 rw [e1]
 by_cases h0 : (errOf s.data.toList).1 = 0
 ·have g0 : ¬ (errOf s.data.toList).1 ≠ 0 := by simpa using h0
  rw [if_neg g0, if_neg g0]
  obtain ⟨b1, b2, -⟩ := err0 _ h0
  have hs : s.size <= 256 := by simpa using b1
  rcases form_eq s hs with ⟨f1, f2, f3, -⟩ | ⟨f1, f2, f3⟩
  ·rw [f3]
   cases hst : (layL s).2.2.stateB a.data.toList with
   | false => rfl
   | true =>
    simp only [Bool.true_eq_false, if_false]
    rw [okL_eq _ _ (z3x hst)]
  ·exact absurd b2 f2
 ·rw [if_pos h0, if_pos h0]
end Go.Proofs.YtkbpocecbcaiiaaGreatDoor
namespace Go.Proofs.YtkbpocecbcaiiaaGreatDoor
open Go.RowKit
theorem z40 {L : Lay} (h : L.big = false) : L.sw.length <= 16 /\ L.rts.length <= 12 /\ L.tns.length <= 5 := by
 unfold Lay.big at h
 simp only [Bool.or_eq_false_iff, decide_eq_false_iff_not] at h
 omega
theorem lay_same (s : ByteArray) (h : (errOf s.data.toList).1 = 0) : (layL s).2.2 = layOf s.data.toList /\ (layOf s.data.toList).big = false := by
 obtain ⟨b1, b2, b3, -⟩ := err0 _ h
 have hs : s.size <= 256 := by simpa using b1
 rcases form_eq s hs with ⟨f1, f2, f3, -⟩ | ⟨f1, f2, f3⟩
 ·exact ⟨f3.symm, b3⟩
 ·exact absurd b2 f2
theorem z26 {α : Type} (n i : Nat) (x d : α) (h : x = d) : (List.replicate n x).getD i d = d := by
 subst h
 rw [List.getD_eq_getElem?_getD, List.getElem?_replicate]
 split <;> rfl
theorem RBoxIn.only {w w' : World} {D F : Nat -> Prop} {g : Nat} {C : RBx} (h : RBoxIn w D g C) (ho : Only F w w') (hd : ∀ k, D k -> ¬ F k) : RBoxIn w' D g C := by
 obtain ⟨vq, h⟩ := h
 exact ⟨vq, h.only ho hd⟩
theorem CRRtL.far {n : Nat} {w w' : World} {r : Rt} {cs : List Value} (h : CRRtL n w r cs) (hs : ∀ k, n <= k -> k < w.heap.size -> w'.heap[k]? = w.heap[k]?) : CRRt w' r cs := by
 obtain ⟨⟨vp, vs, vf, vl, rfl, a, b, c, d⟩, hl⟩ := h
 exact ⟨vp, vs, vf, vl, rfl, SlAt.far a (hl _ (by simp)) hs (fun _ _ h => h), SlAt.far b (hl _ (by simp)) hs (fun _ _ h => h), SlAt.far c (hl _ (by simp)) hs (fun _ _ h => h), SlAt.far d (hl _ (by simp)) hs (fun _ _ h => h)⟩
theorem CRTnL.far {n : Nat} {w w' : World} {r : Tn} {cs : List Value} (h : CRTnL n w r cs) (hs : ∀ k, n <= k -> k < w.heap.size -> w'.heap[k]? = w.heap[k]?) : CRTn w' r cs := by
 obtain ⟨⟨vj, rfl, a⟩, hl⟩ := h
 exact ⟨vj, rfl, SlAt.far a (hl _ (by simp)) hs (fun _ _ h => h)⟩
theorem CRtL.far {n : Nat} {w w' : World} {r : Rt} {cs : List Value} (h : CRtL n w r cs) (hs : ∀ k, n <= k -> k < w.heap.size -> w'.heap[k]? = w.heap[k]?) : CRt w' r cs := by
 obtain ⟨⟨vp, vf, rfl, a, b⟩, hl⟩ := h
 exact ⟨vp, vf, rfl, SlAt.far a (hl _ (by simp)) hs (fun _ _ h => h), SlAt.far b (hl _ (by simp)) hs (fun _ _ h => h)⟩
theorem CTnL.far {n : Nat} {w w' : World} {r : Tn} {cs : List Value} (h : CTnL n w r cs) (hs : ∀ k, n <= k -> k < w.heap.size -> w'.heap[k]? = w.heap[k]?) : CTn w' r cs := by
 obtain ⟨⟨vj, rfl, a⟩, hl⟩ := h
 exact ⟨vj, rfl, SlAt.far a (hl _ (by simp)) hs (fun _ _ h => h)⟩
theorem LayIn.far {n : Nat} {w : World} {v : Value} {L : Lay} (h : CLayL n w v L) : LayIn (fun k => n <= k /\ k < w.heap.size) w v L :=
 ⟨fun _ hk => hk.2, fun w' hs => by
  obtain ⟨vs, vr, vt, e, a, b, c, l1, l2, l3⟩ := h
  have hs' : ∀ k, n <= k -> k < w.heap.size -> w'.heap[k]? = w.heap[k]? := fun k h1 h2 => hs k ⟨h1, h2⟩
  exact ⟨vs, vr, vt, e, SlAt.far a l1 hs' (fun _ _ h => h), SlAt.far b l2 hs' (fun _ _ h => h.far hs'), SlAt.far c l3 hs' (fun _ _ h => h.far hs')⟩⟩
theorem PlanIn.far {n : Nat} {w1 w' : World} {T D Q : Int} {vh vr vt : Value} {L : Lay} (h : RPlanL n w1 (.agg #[.int .i64 T, .int .i64 D, .int .i64 Q, vh, vr, vt]) L) (hb : Below w1.heap.size w1 w') : PlanIn (fun k => n <= k /\ k < w1.heap.size) w' vh vr vt L := by
 refine ⟨fun k hk => Nat.lt_of_lt_of_le hk.2 hb.size, fun w2 hs => ?_⟩
 obtain ⟨vh', vr', vt', e, a, b, c, l1, l2, l3⟩ := h
 simp only [Value.agg.injEq, Array.mk.injEq, List.cons.injEq, and_true] at e
 obtain ⟨-, -, -, rfl, rfl, rfl⟩ := e
 have hs' : ∀ k, n <= k -> k < w1.heap.size -> w2.heap[k]? = w1.heap[k]? := fun k h1 h2 => (hs k ⟨h1, h2⟩).trans (hb.block k h2)
 exact ⟨SlAt.far a l1 hs' (fun _ _ h => h), SlAt.far b l2 hs' (fun _ _ h => h.far hs'), SlAt.far c l3 hs' (fun _ _ h => h.far hs')⟩
theorem lnsV_new (k : Nat) : lnsV (List.replicate k RLn0) (List.replicate k (.slice none 0 0)) = List.replicate k z3v := by
 unfold lnsV
 rw [List.zipWith_replicate, Nat.min_self]
 rfl
theorem new_in {n : Nat} {w' : World} {g : Nat} {L : Lay} (h : RNewAt n w' g L) : RBoxIn w' (fun b => n <= b /\ b < w'.heap.size) g (RBx.init L) := by
 obtain ⟨w1, vh, vr, vt, vl, vw, vf, vd, va, hn, hP, hb, rfl, hbox, h1, h2, h3, h4, h5, h6⟩ := h
 have hz := hb.size
 have hlt := z0f hbox
 have hmem : ∀ m, m ∈ List.replicate L.rts.length (Value.slice none 0 0) -> m = .slice none 0 0 := fun m hm => List.eq_of_mem_replicate hm
 have hown : ∀ b, rOwn (w1.heap.size + 1) vl vw vf vd va (.slice none 0 0) (List.replicate L.rts.length (.slice none 0 0)) b -> w1.heap.size <= b /\ b < w'.heap.size := by
  intro b hb
  rcases hb with hb | hb | hb | hb | hb | hb | hb | ⟨m, hm, hb⟩
  ·omega
  ·have := h1.lt b hb; omega
  ·have := h2.lt b hb; omega
  ·have := h3.lt b hb; omega
  ·have := h4.lt b hb; omega
  ·have := h5.lt b hb; omega
  ·cases hb
  ·rw [hmem m hm] at hb; cases hb
 refine ⟨.slice none 0 0, fun k => n <= k /\ k < w1.heap.size, vh, vr, vt, vl, vw, vf, vd, va, List.replicate L.rts.length (.slice none 0 0), ?_, fun b hb => ⟨hb.1, by have := hb.2; omega⟩, fun b hb => hb.2, fun b hb => ⟨Nat.le_trans hn (hown b hb).1, (hown b hb).2⟩⟩
 refine { box := hbox, plan := PlanIn.far hP hb, lines := ?_, mlen := ?_, marks := ?_, wanted := ?_, failed := ?_, late := ?_, sta := ?_, waits := ?_, sfm := ?_, smm := ?_, sda := h6, sdq := ?_, saq := ?_, out := ?_ }
 ·show w'.ownsRow 0 161 6 vl (List.replicate L.rts.length RLn0).length (lnsV (List.replicate L.rts.length RLn0) (List.replicate L.rts.length (.slice none 0 0))).flatten
  rw [lnsV_new, List.length_replicate]
  exact z2x h1 (Nat.zero_le _)
 ·show (List.replicate L.rts.length (Value.slice none 0 0)).length = (List.replicate L.rts.length RLn0).length
  rw [List.length_replicate, List.length_replicate]
 ·intro i a b
  have e1 : (List.replicate L.rts.length (Value.slice none 0 0))[i] = .slice none 0 0 := List.getElem_replicate _
  have e2 : (RBx.init L).lines[i] = RLn0 := List.getElem_replicate _
  rw [e1, e2]
  exact World.ownsRow_nil _ _ _ _
 ·show w'.ownsRow 0 5 1 vw (L.sw.map (fun b => if b then 43 else 0)).length (bytsV (L.sw.map (fun b => if b then 43 else 0)))
  rw [List.length_map]
  exact z2x h2 (Nat.zero_le _)
 ·show w'.ownsRow 0 4 1 vf (List.replicate L.sw.length false).length (z0t (List.replicate L.sw.length false))
  rw [List.length_replicate]
  exact z2x h3 (Nat.zero_le _)
 ·show w'.ownsRow 0 3 1 vd (List.replicate L.sw.length 0).length (intsV (List.replicate L.sw.length 0))
  rw [List.length_replicate]
  exact z2x h4 (Nat.zero_le _)
 ·show w'.ownsRow 0 3 1 va (List.replicate L.tns.length 0).length (intsV (List.replicate L.tns.length 0))
  rw [List.length_replicate]
  exact z2x h5 (Nat.zero_le _)
 ·exact World.ownsRow_nil _ _ _ _
 ·intro m hm b hb
  rw [hmem m hm] at hb; cases hb
 ·intro i j hi hj _ b hb
  rw [hmem _ (List.getElem_mem hi)] at hb; cases hb
 ·intro b _ hb2; cases hb2
 ·intro b _ hb2; cases hb2
 ·intro b hb hR
  have := (hown b hb).1
  omega
end Go.Proofs.YtkbpocecbcaiiaaGreatDoor
