import Derived.Test.YtkbpocecbcaiiaaGreatDoorH40
import Derived.Test.YtkbpocecbcaiiaaGreatDoorH30
namespace Go.Proofs.YtkbpocecbcaiiaaGreatDoor
theorem times_ok (s : ByteArray) : (timesN s 0 ≠ 3 -> PS s 0 0 = timesN s 0) /\ (timesN s 0 = 3 -> PS s 0 0 = PS s 3 3 /\ 3 <= s.size /\ ∀ i, i < 3 -> 49 <= pk s i /\ pk s i <= 57) := by
  unfold timesN
  cases h0 : inB 49 57 (pk s 0) with
  | false => exact ⟨fun _ => by simp only [if_true]; exact PS_stop s 0 0 (by rw [st_0, h0]; rfl) (by decide) (Nat.zero_le _), fun h => absurd h (by simp)⟩
  | true =>
    have l0 := in_lt s 0 49 57 h0 (by omega)
    have e0 : PS s 0 0 = PS s 1 1 := PS_go s 0 1 0 (by rw [st_0, h0]; rfl) (by decide) l0
    cases h1 : inB 49 57 (pk s (0 + 1)) with
    | false => exact ⟨fun _ => by simp only [Bool.true_eq_false, if_true, if_false]; rw [e0]; exact PS_stop s 1 1 (by rw [st_1, show (1 : Nat) = 0 + 1 from rfl, h1]; rfl) (by decide) l0, fun h => absurd h (by simp)⟩
    | true =>
      have l1 := in_lt s 1 49 57 h1 (by omega)
      have e1 : PS s 1 1 = PS s 2 2 := PS_go s 1 2 1 (by rw [st_1, show (1 : Nat) = 0 + 1 from rfl, h1]; rfl) (by decide) l1
      cases h2 : inB 49 57 (pk s (0 + 2)) with
      | false => exact ⟨fun _ => by simp only [Bool.true_eq_false, if_true, if_false]; rw [e0, e1]; exact PS_stop s 2 2 (by rw [st_2, show (2 : Nat) = 0 + 2 from rfl, h2]; rfl) (by decide) l1, fun h => absurd h (by simp)⟩
      | true =>
        have l2 := in_lt s 2 49 57 h2 (by omega)
        have e2 : PS s 2 2 = PS s 3 3 := PS_go s 2 3 2 (by rw [st_2, show (2 : Nat) = 0 + 2 from rfl, h2]; rfl) (by decide) l2
        refine ⟨fun h => absurd rfl h, fun _ => ⟨by rw [e0, e1, e2], by omega, fun i hi => ?_⟩⟩
        unfold inB at h0 h1 h2
        simp at h0 h1 h2
        match i, hi with
        | 0, _ => omega
        | 1, _ => omega
        | 2, _ => omega
theorem lay_ok (s : ByteArray) (hs : s.size <= 256) :
    (((layL s).1 && decide ((layL s).2.1 = s.size)) = false -> PS s 0 0 = (layL s).2.1) ∧
    (((layL s).1 && decide ((layL s).2.1 = s.size)) = true -> PS s 0 0 = -1 /\ layOf s.data.toList = (layL s).2.2 /\ Form s.data.toList) := by
  unfold layL
  obtain ⟨t1, t2⟩ := times_ok s
  by_cases h3 : timesN s 0 = 3
  · rw [if_neg (by simpa using h3)]
    obtain ⟨e0, l3, hd⟩ := t2 h3
    by_cases h47 : pk s 3 = 47
    · rw [if_neg (by simp [h47])]
      have l4 := eq_lt s 3 47 h47 (by omega)
      have e3 : PS s 3 3 = PS s 4 4 := PS_go s 3 4 3 (by rw [st_3, if_pos h47]) (by decide) l4
      obtain ⟨s1, s2, s3, s4, s5, s6, s7⟩ := sec_ok s 300 4 (by omega) (by omega)
      generalize secL s 300 4 = R at *
      obtain ⟨bs, q1⟩ := R
      simp only at *
      by_cases hbs : bs = []
      · rw [if_pos (by rw [hbs]; rfl)]
        have := s6 hbs
        subst this
        exact ⟨fun _ => by rw [e0, e3]; exact PS_stop s 4 4 (by rw [st_4, if_neg s5]) (by decide) s2, fun h => absurd h (by simp)⟩
      · rw [if_neg (by simpa using hbs)]
        obtain ⟨s7a, s7b⟩ := s7 hbs
        have e4 := s7b 4 (.inl rfl)
        by_cases h47b : pk s q1 = 47
        · rw [if_neg (by simp [h47b])]
          have l5 := eq_lt s q1 47 h47b (by omega)
          have e5 : PS s 5 q1 = PS s 6 (q1 + 1) := PS_go s 5 6 q1 (by rw [st_5, if_neg s5, if_pos h47b]) (by decide) l5
          obtain ⟨r1, r2⟩ := rts_ok s hs 300 (q1 + 1) (by omega) (by omega)
          generalize rtsL s 300 (q1 + 1) = R at *
          obtain ⟨ok, q2, rs⟩ := R
          simp only at *
          cases ok with
          | false =>
            simp only [if_true]
            exact ⟨fun _ => by rw [e0, e3, e4, e5]; exact r1 rfl, fun h => absurd h (by simp)⟩
          | true =>
            simp only [Bool.true_eq_false, if_false]
            obtain ⟨a1, a2, a3, a4, a5, a6, b, a7, a8, a9⟩ := r2 rfl
            by_cases h47c : pk s q2 = 47
            · rw [if_neg (by simp [h47c])]
              have l6 := eq_lt s q2 47 h47c (by omega)
              have e6 : PS s b q2 = PS s 14 (q2 + 1) := PS_go s b 14 q2 (by rw [a9, if_pos h47c]) (by decide) l6
              obtain ⟨u1, u2⟩ := tns_ok s hs 300 (q2 + 1) (by omega) (by omega)
              generalize tnsL s 300 (q2 + 1) = R at *
              obtain ⟨ok, q3, ts⟩ := R
              simp only at *
              cases ok with
              | false =>
                simp only [Bool.false_and]
                exact ⟨fun _ => by rw [e0, e3, e4, e5, a8, e6]; exact u1 rfl, fun h => absurd h (by simp)⟩
              | true =>
                obtain ⟨b1, b2, b3, b4, b5, b6⟩ := u2 rfl
                simp only [Bool.true_and, decide_eq_false_iff_not, decide_eq_true_eq]
                refine ⟨fun h => by rw [e0, e3, e4, e5, a8, e6, b6, if_neg h], fun h => ?_⟩
                have hps : PS s 0 0 = -1 := by rw [e0, e3, e4, e5, a8, e6, b6, if_pos h]
                subst h
                have hsplit : splitA 47 [] s.data.toList = [sl s 0 3, sl s 4 q1, sl s (q1 + 1) q2, sl s (q2 + 1) s.size] := by
                  rw [<- sl_all s, split_two s 47 0 3 s.size (by omega) (by omega) (Nat.le_refl _) (fun i x y => bt_ne (by have := hd i y; simp; omega)) (bt_eq (by rw [h47]; rfl)),
                    split_two s 47 4 q1 s.size (by omega) (by omega) (Nat.le_refl _) (fun i x y => bt_ne (by have := s3 i x y; simp; omega)) (bt_eq (by rw [h47b]; rfl)),
                    split_two s 47 (q1 + 1) q2 s.size (by omega) (by omega) (Nat.le_refl _) (fun i x y => bt_ne (by have := a3 i x y; simp; omega)) (bt_eq (by rw [h47c]; rfl)),
                    split_one s 47 (q2 + 1) s.size (by omega) (Nat.le_refl _) (fun i x y => bt_ne (by have := b3 i x y; simp; omega))]
                have hlay : layOf s.data.toList = ⟨pk s 0 - 48, pk s 1 - 48, pk s 2 - 48, bs, rs, ts⟩ := by
                  unfold layOf
                  rw [hsplit]
                  rw [<- s4, <- a4, <- b4]
                  rfl
                refine ⟨hps, hlay, by simp; omega, ?_, ?_, ?_, sl s 0 3, sl s 4 q1, sl s (q1 + 1) q2, sl s (q2 + 1) s.size, hsplit, a5, b5, ?_⟩
                · have := (hd 0 (by omega)).1; rw [pk_bt] at this; unfold bt at this; omega
                · have := (hd 1 (by omega)).1; rw [pk_bt] at this; unfold bt at this; omega
                · have := (hd 2 (by omega)).1; rw [pk_bt] at this; unfold bt at this; omega
                · rw [hlay]; exact a6
            · rw [if_pos (by simp [h47c])]
              exact ⟨fun _ => by rw [e0, e3, e4, e5, a8]; exact PS_stop s b q2 (by rw [a9, if_neg h47c]) a7 a2, fun h => absurd h (by simp)⟩
        · rw [if_pos (by simp [h47b])]
          exact ⟨fun _ => by rw [e0, e3, e4]; exact PS_stop s 5 q1 (by rw [st_5, if_neg s5, if_neg h47b]) (by decide) s2, fun h => absurd h (by simp)⟩
    · rw [if_pos (by simp [h47])]
      exact ⟨fun _ => by rw [e0]; exact PS_stop s 3 3 (by rw [st_3, if_neg h47]) (by decide) l3, fun h => absurd h (by simp)⟩
  · rw [if_pos (by simpa using h3)]
    exact ⟨fun _ => t1 h3, fun h => absurd h (by simp)⟩
theorem PS_all (s : ByteArray) : PS s 0 0 = placeS 0 0 s.data.toList := by unfold PS; rw [List.drop_zero]
theorem form_ok : FormOK := by
  intro l hl hp
  have hs : (⟨l.toArray⟩ : ByteArray).data.toList = l := by simp
  have hz : (⟨l.toArray⟩ : ByteArray).size <= 256 := by show l.toArray.size <= 256; simpa using hl
  obtain ⟨h1, h2⟩ := lay_ok ⟨l.toArray⟩ hz
  rw [PS_all, hs] at h1 h2
  cases h : ((layL ⟨l.toArray⟩).1 && decide ((layL ⟨l.toArray⟩).2.1 = (⟨l.toArray⟩ : ByteArray).size)) with
  | true => exact (h2 h).2.2
  | false =>
    have := h1 h
    rw [hp] at this
    omega
theorem form_eq (s : ByteArray) (hs : s.size <= 256) : ((formOf s).1 = 0 /\ placeS 0 0 s.data.toList = -1 /\ layOf s.data.toList = (layL s).2.2 /\ (layL s).2.2.Paths) ∨
    ((formOf s).1 = 2 /\ placeS 0 0 s.data.toList ≠ -1 /\ ((formOf s).2 : Int) = placeS 0 0 s.data.toList) := by
  obtain ⟨h1, h2⟩ := lay_ok s hs
  unfold formOf
  rw [if_neg (by omega)]
  cases h : ((layL s).1 && decide ((layL s).2.1 = s.size)) with
  | true =>
    left
    obtain ⟨a, b, c⟩ := h2 h
    rw [PS_all] at a
    obtain ⟨-, -, -, -, p0, p1, p2, p3, -, -, -, hP⟩ := c
    rw [b] at hP
    exact ⟨rfl, a, b, hP⟩
  | false =>
    right
    have := h1 h
    rw [PS_all] at this
    refine ⟨rfl, by rw [this]; omega, by simp [this]⟩
theorem read_paths (s : ByteArray) : (formOf s).1 = 0 -> (layL s).2.2.Paths := by
  intro h
  by_cases hs : s.size <= 256
  · rcases form_eq s hs with ⟨-, -, -, h'⟩ | ⟨h', -⟩
    · exact h'
    · rw [h] at h'; cases h'
  · unfold formOf at h
    rw [if_pos (by omega)] at h
    cases h
end Go.Proofs.YtkbpocecbcaiiaaGreatDoor
namespace Go.Proofs.YtkbpocecbcaiiaaGreatDoor
theorem dup_iff (l : List Nat) : (∀ i, i < l.length -> (l.filter (· == l.getD i 0)).length <= 1) ↔ (∀ i, i < l.length -> (l.take i).contains (l.getD i 0) = false) := by
  constructor
  · intro h i hi
    have h1 := h i hi
    cases hc : (l.take i).contains (l.getD i 0) with
    | false => rfl
    | true =>
      exfalso
      have hx : l.getD i 0 = l[i] := by simp [List.getD_eq_getElem?_getD, List.getElem?_eq_getElem hi]
      rw [hx] at h1 hc
      have hsp : l = l.take i ++ l[i] :: l.drop (i + 1) := by
        rw [<- List.drop_eq_getElem_cons hi, List.take_append_drop]
      obtain ⟨y, hy⟩ : ∃ y, y = l[i] := ⟨_, rfl⟩
      rw [<- hy] at h1 hc hsp
      have hpos : 0 < ((l.take i).filter (· == y)).length := by
        apply List.length_pos_iff.2
        intro hn
        rw [List.filter_eq_nil_iff] at hn
        exact hn y (by simpa using hc) (by simp)
      have h2 : (l.filter (· == y)).length = ((l.take i).filter (· == y)).length + (1 + ((l.drop (i + 1)).filter (· == y)).length) := by
        conv => lhs; rw [hsp]
        rw [List.filter_append, List.length_append, List.filter_cons]
        simp [Nat.add_comm]
      omega
  · intro h i hi
    generalize l.getD i 0 = x
    have key : ∀ k, k <= l.length -> ((l.take k).filter (· == x)).length <= 1 := by
      intro k
      induction k with
      | zero => intro _; simp
      | succ k ih =>
        intro hk
        have hk' : k < l.length := by omega
        rw [<- List.take_append_getElem hk', List.filter_append, List.length_append]
        have := ih (by omega)
        by_cases hx : l[k] = x
        · have hc := h k hk'
          rw [show l.getD k 0 = l[k] by simp [List.getD_eq_getElem?_getD, List.getElem?_eq_getElem hk'], hx] at hc
          have hn : (l.take k).filter (· == x) = [] := by
            rw [List.filter_eq_nil_iff]
            intro a ha e
            have : a = x := by simpa using e
            subst this
            rw [List.contains_iff_mem.2 ha] at hc
            cases hc
          rw [hn]
          simp only [List.length_nil, Nat.zero_add]
          exact List.length_filter_le _ _
        · have : [l[k]].filter (· == x) = [] := by simp [hx]
          rw [this]; simpa using ih (by omega)
    have := key l.length (Nat.le_refl _)
    rwa [List.take_length] at this
theorem secs_getD (p : List (Nat × Nat)) (i : Nat) : (secs p).getD i 0 = (p.getD i (0, 0)).1 := by
  simp only [secs, List.getD_eq_getElem?_getD, List.getElem?_map]
  cases p[i]? <;> rfl
theorem secs_take (p : List (Nat × Nat)) (i : Nat) : secs (p.take i) = (secs p).take i := by simp [secs]
theorem secs_length (p : List (Nat × Nat)) : (secs p).length = p.length := by simp [secs]
theorem dup_p (p : List (Nat × Nat)) : (∀ i, i < p.length -> ¬ 1 < ((secs p).filter (· == (p.getD i (0, 0)).1)).length) ↔ (∀ i, i < p.length -> has (p.take i) (p.getD i (0, 0)).1 = false) := by
  have h := dup_iff (secs p)
  rw [secs_length] at h
  simp only [secs_getD] at h
  unfold has
  simp only [secs_take]
  rw [<- h]
  exact ⟨fun a i hi => by have := a i hi; omega, fun a i hi => by have := a i hi; omega⟩
theorem route_eq (L : Lay) (r : Rt) : L.routeOK r = !L.crooked r := by
  rw [Bool.eq_iff_iff]
  unfold Lay.routeOK Lay.crooked
  simp only [Bool.and_eq_true, decide_eq_true_eq, Bool.not_eq_true', Bool.or_eq_false_iff, decide_eq_false_iff_not, List.all_eq_true, List.any_eq_false, List.mem_range, Nat.not_le]
  unfold Lay.pOK Lay.fOK Lay.badPath Lay.badFlank Lay.itemOK
  simp only [Bool.and_eq_true, decide_eq_true_eq, Bool.not_eq_true', Bool.or_eq_true, beq_iff_eq, not_or, Nat.not_le, bne_iff_ne, ne_eq, Decidable.not_not]
  have d1 := dup_p r.path
  have d2 := dup_p r.flank
  have hsw : ∀ x, L.sw.getD x false = true -> x < L.sw.length := by
    intro x hx
    rcases Nat.lt_or_ge x L.sw.length with h | h
    · exact h
    · rw [List.getD_eq_getElem?_getD, List.getElem?_eq_none h] at hx
      cases hx
  constructor
  · rintro ⟨⟨h1, h2⟩, h3⟩
    have g1 := d1.2 (fun i hi => (h2 i hi).2)
    have g2 := d2.2 (fun i hi => (h3 i hi).1.2)
    refine ⟨⟨h1, fun i hi => ?_⟩, fun i hi => ?_⟩
    · obtain ⟨⟨⟨a, b⟩, c⟩, d⟩ := h2 i hi
      exact ⟨⟨⟨a, g1 i hi⟩, by simpa using c⟩, b⟩
    · obtain ⟨⟨a, b⟩, c, d⟩ := h3 i hi
      exact ⟨⟨⟨⟨hsw _ c, g2 i hi⟩, by rw [a]; simp⟩, by rw [d]; simp⟩, by rw [c]; simp⟩
  · rintro ⟨⟨h1, h2⟩, h3⟩
    have g1 := d1.1 (fun i hi => (h2 i hi).1.1.2)
    have g2 := d2.1 (fun i hi => (h3 i hi).1.1.1.2)
    refine ⟨⟨h1, fun i hi => ?_⟩, fun i hi => ?_⟩
    · obtain ⟨⟨⟨a, b⟩, c⟩, d⟩ := h2 i hi
      exact ⟨⟨⟨a, d⟩, by simpa using c⟩, g1 i hi⟩
    · obtain ⟨⟨⟨⟨a, b⟩, c⟩, d⟩, e⟩ := h3 i hi
      exact ⟨⟨by simpa using c, g2 i hi⟩, by simpa using e, by simpa using d⟩
theorem train_eq (L : Lay) (k : Nat) (hk : k < L.tns.length) : L.trainOK (L.tn k) (L.tns.take k) = !L.stray k := by
  have ha : (L.tns.take k).any (fun o => o.start == (L.tn k).start) = (List.range k).any (fun i => (L.tn i).start == (L.tn k).start) := by
    rw [Bool.eq_iff_iff]
    simp only [List.any_eq_true, List.mem_range]
    constructor
    · rintro ⟨o, ho, e⟩
      obtain ⟨j, hj, rfl⟩ := List.getElem_of_mem ho
      have hj' : j < k := by simp at hj; omega
      refine ⟨j, hj', ?_⟩
      rw [List.getElem_take] at e
      simpa [Lay.tn, List.getD_eq_getElem?_getD, List.getElem?_eq_getElem (show j < L.tns.length by omega)] using e
    · rintro ⟨j, hj, e⟩
      refine ⟨L.tns[j]'(by omega), ?_, ?_⟩
      · rw [List.mem_take_iff_getElem]
        exact ⟨j, by omega, rfl⟩
      · simpa [Lay.tn, List.getD_eq_getElem?_getD, List.getElem?_eq_getElem (show j < L.tns.length by omega)] using e
  unfold Lay.trainOK Lay.stray
  rw [ha]
  simp only [Bool.not_or, Bool.not_not]
  rw [show (!decide (L.sw.length <= (L.tn k).start)) = decide ((L.tn k).start < L.sw.length) by rw [<- decide_not]; simp]
theorem find_congr {p q : Nat -> Bool} : ∀ (l : List Nat), (∀ x, x ∈ l -> p x = q x) -> l.find? p = l.find? q
  | [], _ => rfl
  | a :: l, h => by
    rw [List.find?_cons, List.find?_cons, h a (by simp), find_congr l (fun x hx => h x (List.mem_cons_of_mem _ hx))]
theorem check_eq (L : Lay) : L.checkOf = if L.big then (3, 0) else match (List.range L.rts.length).find? (fun i => L.crooked (L.rt i)) with
    | some i => (4, i)
    | none => match (List.range L.tns.length).find? (fun i => L.stray i) with
      | some i => (5, i)
      | none => (0, 0) := by
  unfold Lay.checkOf
  rw [find_congr (p := fun i => !L.routeOK (L.rt i)) (q := fun i => L.crooked (L.rt i)) _ (fun x _ => by simp only [route_eq, Bool.not_not]),
    find_congr (p := fun i => !L.trainOK (L.tn i) (L.tns.take i)) (q := fun i => L.stray i) (List.range L.tns.length) (fun x hx => by simp only [train_eq L x (List.mem_range.1 hx), Bool.not_not])]
  rfl
end Go.Proofs.YtkbpocecbcaiiaaGreatDoor
namespace Go.Proofs.YtkbpocecbcaiiaaGreatDoor
theorem ne_none_find {p : Nat -> Bool} {n i : Nat} (hi : i < n) (hp : p i = true) : (List.range n).find? p ≠ none := by
  intro h
  rw [List.find?_eq_none] at h
  exact h i (List.mem_range.2 hi) hp
def RelS (L : Lay) (at_ : List Nat) (l : List St) : Prop := l.length = L.tns.length /\ at_.length = L.tns.length /\ ∀ i (h : i < l.length),
  (l[i].done = false -> L.doneB at_ i = false /\ l[i].holds = L.holdsAt (L.tn i) (at_.getD i 0) /\ l[i].ahead = L.aheadAt ((L.tn i).jny.drop (at_.getD i 0))) 
theorem holds_some (L : Lay) (at_ : List Nat) (i : Nat) (h : L.doneB at_ i = false) : L.holds at_ i = some (L.holdsAt (L.tn i) (at_.getD i 0)) := by
  unfold Lay.holds Lay.holdsAt
  rw [h]
  simp only [Bool.false_eq_true, if_false]
  split <;> rfl
theorem hits_iff (L : Lay) (js : List Nat) (h : Nat) : (∀ r, r ∈ js -> hits (secs (L.rt r).path) (some h) = false) ↔ (L.aheadAt js).contains h = false := by
  unfold Lay.aheadAt hits
  simp only [List.contains_eq_mem, decide_eq_false_iff_not, List.mem_flatMap, not_exists, not_and]
theorem may_of_runs (L : Lay) (at_ : List Nat) (l : List St) (hR : RelS L at_ l) (t : Nat) (ht : t < l.length) (hd : l[t].done = false) (hr : L.runsB at_ t = true) : mayRunL l t = true := by
  unfold mayRunL
  rw [List.all_eq_true]
  intro i hi
  have hi' := List.mem_range.1 hi
  rw [stD l i hi', stD l t ht]
  cases hdi : l[i].done with
  | true => simp
  | false =>
    by_cases hit : i = t
    · simp [hit]
    · obtain ⟨a1, a2, a3⟩ := hR.2.2 i hi' hdi
      obtain ⟨b1, b2, b3⟩ := hR.2.2 t ht hd
      have : l[t].ahead.contains l[i].holds = false := by
        rw [b3, a2, <- hits_iff]
        intro r hr'
        unfold Lay.runsB at hr
        rw [List.all_eq_true] at hr
        have h1 := hr r hr'
        rw [List.all_eq_true] at h1
        have h2 := h1 i (List.mem_range.2 (by rw [hR.2.1, <- hR.1]; exact hi'))
        rw [holds_some L at_ i a1] at h2
        simpa [hit] using h2
      rw [this]; simp
theorem runs_of_may (L : Lay) (at_ : List Nat) (l : List St) (hR : RelS L at_ l) (hx : ∀ i (h : i < l.length), l[i].done = true -> L.doneB at_ i = true) (t : Nat) (ht : t < l.length) (hd : l[t].done = false) (hm : mayRunL l t = true) : L.runsB at_ t = true := by
  unfold Lay.runsB
  rw [List.all_eq_true]
  intro r hr
  rw [List.all_eq_true]
  intro i hi
  have hi' : i < l.length := by rw [hR.1, <- hR.2.1]; exact List.mem_range.1 hi
  by_cases hit : i = t
  · simp [hit]
  · cases hdi : l[i].done with
    | true =>
      have : L.holds at_ i = none := by unfold Lay.holds; rw [hx i hi' hdi]; rfl
      rw [this]; simp [hits]
    | false =>
      obtain ⟨a1, a2, a3⟩ := hR.2.2 i hi' hdi
      obtain ⟨b1, b2, b3⟩ := hR.2.2 t ht hd
      unfold mayRunL at hm
      rw [List.all_eq_true] at hm
      have h1 := hm i (List.mem_range.2 hi')
      rw [stD l i hi', stD l t ht, hdi] at h1
      have h2 : l[t].ahead.contains l[i].holds = false := by simpa [hit] using h1
      rw [b3, a2, <- hits_iff] at h2
      rw [holds_some L at_ i a1, h2 r hr]; simp
theorem withN_get (L : Lay) (at_ : List Nat) (t i : Nat) : (L.withN at_ t).getD i 0 = if i = t /\ t < at_.length then (L.tn t).jny.length else at_.getD i 0 := by
  unfold Lay.withN
  simp only [List.getD_eq_getElem?_getD, List.getElem?_set]
  by_cases h : t = i
  · subst h
    by_cases h2 : t < at_.length
    · simp [h2]
    · simp [h2]
  · rw [if_neg h, if_neg (by omega)]
theorem withN_done (L : Lay) (at_ : List Nat) (t : Nat) (ht : t < at_.length) : L.doneB (L.withN at_ t) t = true := by
  unfold Lay.doneB; rw [withN_get, if_pos ⟨rfl, ht⟩]; simp
theorem withN_len (L : Lay) (at_ : List Nat) (t : Nat) : (L.withN at_ t).length = at_.length := by simp [Lay.withN]
theorem sound_done (L : Lay) : ∀ (f : Nat) (at_ : List Nat) (E : List St), RelS L at_ E -> firstL E = none -> L.soundF f at_ = true -> E.all (·.done) = true := by
  have hall : ∀ (at_ : List Nat) (E : List St), RelS L at_ E -> L.allDone at_ = true -> E.all (·.done) = true := by
    intro at_ E hR h
    rw [List.all_eq_true]
    intro x hx
    obtain ⟨i, hi, rfl⟩ := List.getElem_of_mem hx
    cases hd : E[i].done with
    | true => rfl
    | false =>
      have h1 := (hR.2.2 i hi hd).1
      unfold Lay.allDone at h
      rw [List.all_eq_true] at h
      rw [h i (List.mem_range.2 (by rw [hR.2.1, <- hR.1]; exact hi))] at h1
      cases h1
  intro f
  induction f with
  | zero => intro at_ E hR _ h; exact hall at_ E hR h
  | succ f ih =>
    intro at_ E hR hf h
    unfold Lay.soundF at h
    rw [Bool.or_eq_true] at h
    rcases h with h | h
    · exact hall at_ E hR h
    · rw [List.any_eq_true] at h
      obtain ⟨t, ht, h⟩ := h
      have ht0 := List.mem_range.1 ht
      have ht' : t < E.length := by rw [hR.1, <- hR.2.1]; exact ht0
      simp only [Bool.and_eq_true, Bool.not_eq_true'] at h
      obtain ⟨⟨h1, h2⟩, h3⟩ := h
      cases hd : E[t].done with
      | false =>
        exfalso
        refine ne_none_find (p := fun i => !(E.getD i ⟨false, 0, []⟩).done && mayRunL E i) ht' ?_ hf
        simp only [stD E t ht', hd, may_of_runs L at_ E hR t ht' hd h2]; rfl
      | true =>
        refine ih (L.withN at_ t) E ⟨hR.1, by rw [withN_len]; exact hR.2.1, fun i hi hdi => ?_⟩ hf h3
        have hit : i ≠ t := by intro e; subst e; rw [hd] at hdi; cases hdi
        obtain ⟨a1, a2, a3⟩ := hR.2.2 i hi hdi
        have e : (L.withN at_ t).getD i 0 = at_.getD i 0 := by rw [withN_get, if_neg (by omega)]
        rw [e]
        exact ⟨by unfold Lay.doneB at a1 ⊢; rw [e]; exact a1, a2, a3⟩
theorem markD_get (l : List St) (i j : Nat) (hi : i < l.length) (hj : j < l.length) : (markD l i)[j]'(by rw [markD_len]; exact hj) = if i = j then ⟨true, l[i].holds, l[i].ahead⟩ else l[j] := by
  unfold markD
  rw [List.getElem_set]
  split <;> rename_i h
  · rw [stD l i hi]
  · rfl
theorem orderL_end : ∀ (f : Nat) (l : List St), undoneS l <= f -> firstL (orderL f l).2 = none /\ (orderL f l).2.length = l.length /\ ∀ (i : Nat) (x : St), (orderL f l).2[i]? = some x -> x.done = false -> l[i]? = some x := by
  intro f
  induction f with
  | zero =>
    intro l hu
    refine ⟨?_, rfl, fun i x h _ => h⟩
    cases hf : firstL l with
    | none => exact hf
    | some i => have := undoneS_mark hf; omega
  | succ f ih =>
    intro l hu
    cases hf : firstL l with
    | none =>
      rw [show orderL (f + 1) l = ([], l) by simp [orderL, hf]]
      exact ⟨hf, rfl, fun i x h _ => h⟩
    | some k =>
      rw [show orderL (f + 1) l = (k :: (orderL f (markD l k)).1, (orderL f (markD l k)).2) by simp [orderL, hf]]
      have hm := undoneS_mark hf
      obtain ⟨hk, -, -⟩ := firstL_some hf
      obtain ⟨h1, h2, h3⟩ := ih (markD l k) (by omega)
      refine ⟨h1, by rw [h2, markD_len], fun i x h hd => ?_⟩
      have e := h3 i x h hd
      unfold markD at e
      rw [List.getElem?_set] at e
      by_cases hki : k = i
      · rw [if_pos hki, if_pos hk] at e
        simp only [Option.some.injEq] at e
        rw [<- e] at hd
        cases hd
      · rw [if_neg hki] at e
        exact e
theorem done_sound (L : Lay) : ∀ (f : Nat) (at_ : List Nat) (l : List St), RelS L at_ l -> (∀ i (h : i < l.length), l[i].done = true -> L.doneB at_ i = true) -> (orderL f l).2.all (·.done) = true -> L.soundF f at_ = true := by
  have hall : ∀ (at_ : List Nat) (l : List St), RelS L at_ l -> (∀ i (h : i < l.length), l[i].done = true -> L.doneB at_ i = true) -> l.all (·.done) = true -> L.allDone at_ = true := by
    intro at_ l hR hx h
    unfold Lay.allDone
    rw [List.all_eq_true]
    intro i hi
    have hi' : i < l.length := by rw [hR.1, <- hR.2.1]; exact List.mem_range.1 hi
    rw [List.all_eq_true] at h
    exact hx i hi' (h _ (List.getElem_mem hi'))
  intro f
  induction f with
  | zero => intro at_ l hR hx h; exact hall at_ l hR hx h
  | succ f ih =>
    intro at_ l hR hx h
    unfold orderL at h
    unfold Lay.soundF
    cases hf : firstL l with
    | none =>
      rw [hf] at h
      rw [hall at_ l hR hx h]; rfl
    | some k =>
      rw [hf] at h
      simp only at h
      obtain ⟨hk, hd, hm⟩ := firstL_some hf
      have hk' : k < at_.length := by rw [hR.2.1, <- hR.1]; exact hk
      rw [Bool.or_eq_true]
      right
      rw [List.any_eq_true]
      refine ⟨k, List.mem_range.2 hk', ?_⟩
      have h1 := (hR.2.2 k hk hd).1
      have h2 := runs_of_may L at_ l hR hx k hk hd hm
      have h3 := ih (L.withN at_ k) (markD l k) ⟨by rw [markD_len]; exact hR.1, by rw [withN_len]; exact hR.2.1, fun i hi hdi => ?_⟩ (fun i hi hdi => ?_) h
      · rw [h1, h2, h3]; rfl
      · have hi' : i < l.length := by rw [markD_len] at hi; exact hi
        rw [markD_get l k i hk hi'] at hdi ⊢
        by_cases hki : k = i
        · rw [if_pos hki] at hdi; cases hdi
        · rw [if_neg hki] at hdi ⊢
          obtain ⟨a1, a2, a3⟩ := hR.2.2 i hi' hdi
          have e : (L.withN at_ k).getD i 0 = at_.getD i 0 := by rw [withN_get, if_neg (by omega)]
          rw [e]
          exact ⟨by unfold Lay.doneB at a1 ⊢; rw [e]; exact a1, a2, a3⟩
      · have hi' : i < l.length := by rw [markD_len] at hi; exact hi
        rw [markD_get l k i hk hi'] at hdi
        by_cases hki : k = i
        · subst hki; exact withN_done L at_ k hk'
        · rw [if_neg hki] at hdi
          have := hx i hi' hdi
          have e : (L.withN at_ k).getD i 0 = at_.getD i 0 := by rw [withN_get, if_neg (by omega)]
          unfold Lay.doneB at this ⊢; rw [e]; exact this
theorem sts_rel (L : Lay) (at_ : List Nat) (hl : at_.length = L.tns.length) : RelS L at_ (L.stsAt at_) /\ ∀ i (h : i < (L.stsAt at_).length), (L.stsAt at_)[i].done = true -> L.doneB at_ i = true := by
  have hg : ∀ i (h : i < (L.stsAt at_).length), (L.stsAt at_)[i] = L.stAt (L.tn i) (at_.getD i 0) := by intro i h; simp [Lay.stsAt]
  refine ⟨⟨by simp [Lay.stsAt], hl, fun i h hd => ?_⟩, fun i h hd => ?_⟩
  · rw [hg i h] at hd ⊢
    unfold Lay.stAt at hd ⊢
    simp only [decide_eq_false_iff_not] at hd
    refine ⟨by unfold Lay.doneB; simpa using hd, ?_, rfl⟩
    simp only
    rw [Nat.min_eq_right (by omega)]
  · rw [hg i h] at hd
    unfold Lay.stAt at hd
    unfold Lay.doneB
    exact hd
theorem ok_sound (L : Lay) (at_ : List Nat) (hl : at_.length = L.tns.length) : (orderL L.tns.length (L.stsAt at_)).2.all (·.done) = L.sound at_ := by
  obtain ⟨hR, hx⟩ := sts_rel L at_ hl
  have hu : undoneS (L.stsAt at_) <= L.tns.length := by have := undoneS_le (L.stsAt at_); rw [hR.1] at this; exact this
  obtain ⟨h1, h2, h3⟩ := orderL_end L.tns.length (L.stsAt at_) hu
  rw [Bool.eq_iff_iff]
  unfold Lay.sound
  rw [hl]
  constructor
  · exact done_sound L L.tns.length at_ (L.stsAt at_) hR hx
  · intro h
    refine sound_done L L.tns.length at_ _ ⟨by rw [h2]; exact hR.1, hl, fun i hi hd => ?_⟩ h1 h
    have hi' : i < (L.stsAt at_).length := by rw [<- h2]; exact hi
    have e := h3 i _ (List.getElem?_eq_getElem hi) hd
    rw [List.getElem?_eq_getElem hi'] at e
    simp only [Option.some.injEq] at e
    rw [<- e] at hd ⊢
    exact hR.2.2 i hi' hd
end Go.Proofs.YtkbpocecbcaiiaaGreatDoor
namespace Go.Proofs.YtkbpocecbcaiiaaGreatDoor
theorem okL_eq (L : Lay) (at_ : List Nat) (hl : at_.length = L.tns.length) : L.okL at_ = L.sound at_ := ok_sound L at_ hl
theorem load_eq (s : ByteArray) : (loadOf s).1 = (errOf s.data.toList).1 /\ ((loadOf s).2 : Int) = (errOf s.data.toList).2 := by
  have hlen : s.data.toList.length = s.size := by simp
  unfold loadOf errOf
  rw [hlen]
  by_cases hs : 256 < s.size
  · have hf : formOf s = (1, 0) := by unfold formOf; rw [if_pos hs]
    rw [if_pos hs, hf]
    exact ⟨rfl, rfl⟩
  · rw [if_neg hs]
    rcases form_eq s (by omega) with ⟨f1, f2, f3, -⟩ | ⟨f1, f2, f3⟩
    · have g1 : ¬ (formOf s).1 ≠ 0 := by simpa using f1
      have g2 : ¬ placeS 0 0 s.data.toList ≠ -1 := by simpa using f2
      rw [if_neg g1, if_neg g2, f3, check_eq]
      generalize (layL s).2.2 = L
      cases hb : L.big with
      | true => exact ⟨rfl, rfl⟩
      | false =>
        simp only [Bool.false_eq_true, if_false]
        cases h4 : (List.range L.rts.length).find? (fun i => L.crooked (L.rt i)) with
        | some i => exact ⟨rfl, rfl⟩
        | none =>
          simp only
          cases h5 : (List.range L.tns.length).find? (fun i => L.stray i) with
          | some i => exact ⟨rfl, rfl⟩
          | none =>
            simp only
            rw [okL_eq L _ (by simp)]
            cases L.sound (List.replicate L.tns.length 0) with
            | true => exact ⟨rfl, rfl⟩
            | false => exact ⟨rfl, rfl⟩
    · have g1 : (formOf s).1 ≠ 0 := by rw [f1]; decide
      rw [if_pos g1, if_pos f2]
      exact ⟨f1, f3⟩
end Go.Proofs.YtkbpocecbcaiiaaGreatDoor
namespace Go.Proofs.YtkbpocecbcaiiaaGreatDoor
open Go.RowKit
theorem big_small {L : Lay} (h : L.big = false) : L.sw.length <= 16 /\ L.rts.length <= 12 /\ L.tns.length <= 5 := by
  unfold Lay.big at h
  simp only [Bool.or_eq_false_iff, decide_eq_false_iff_not] at h
  omega
theorem lay_same (s : ByteArray) (h : (errOf s.data.toList).1 = 0) : (layL s).2.2 = layOf s.data.toList /\ (layOf s.data.toList).big = false := by
  obtain ⟨b1, b2, b3, -⟩ := err0 _ h
  have hs : s.size <= 256 := by simpa using b1
  rcases form_eq s hs with ⟨f1, f2, f3, -⟩ | ⟨f1, f2, f3⟩
  · exact ⟨f3.symm, b3⟩
  · exact absurd b2 f2
theorem getD_rep {α : Type} (n i : Nat) (x d : α) (h : x = d) : (List.replicate n x).getD i d = d := by
  subst h
  rw [List.getD_eq_getElem?_getD, List.getElem?_replicate]
  split <;> rfl
end Go.Proofs.YtkbpocecbcaiiaaGreatDoor
namespace Go.Proofs.YtkbpocecbcaiiaaGreatDoor
open Go.RowKit
theorem RBoxIn.only {w w' : World} {D F : Nat -> Prop} {g : Nat} {C : RBx} (h : RBoxIn w D g C) (ho : Only F w w') (hd : ∀ k, D k -> ¬ F k) : RBoxIn w' D g C := by
  obtain ⟨vq, h⟩ := h
  exact ⟨vq, h.only ho hd⟩
theorem CRRtL.far {n : Nat} {w w' : World} {r : Rt} {cs : List Value} (h : CRRtL n w r cs) (hs : ∀ k, n <= k -> k < w.heap.size -> w'.heap[k]? = w.heap[k]?) : CRRt w' r cs := by
  obtain ⟨⟨vp, vs, vf, vl, rfl, a, b, c, d⟩, hl⟩ := h
  exact ⟨vp, vs, vf, vl, rfl, SlAt.far a (hl _ (by simp)) hs (fun _ _ h => h), SlAt.far b (hl _ (by simp)) hs (fun _ _ h => h), SlAt.far c (hl _ (by simp)) hs (fun _ _ h => h), SlAt.far d (hl _ (by simp)) hs (fun _ _ h => h)⟩
theorem CRTnL.far {n : Nat} {w w' : World} {r : Tn} {cs : List Value} (h : CRTnL n w r cs) (hs : ∀ k, n <= k -> k < w.heap.size -> w'.heap[k]? = w.heap[k]?) : CRTn w' r cs := by
  obtain ⟨⟨vj, rfl, a⟩, hl⟩ := h
  exact ⟨vj, rfl, SlAt.far a (hl _ (by simp)) hs (fun _ _ h => h)⟩
theorem CRtL.far {n : Nat} {w w' : World} {r : Rt} {cs : List Value} (h : CRtL n w r cs) (hs : ∀ k, n <= k -> k < w.heap.size -> w'.heap[k]? = w.heap[k]?) : CRt w' r cs := by
  obtain ⟨⟨vp, vf, rfl, a, b⟩, hl⟩ := h
  exact ⟨vp, vf, rfl, SlAt.far a (hl _ (by simp)) hs (fun _ _ h => h), SlAt.far b (hl _ (by simp)) hs (fun _ _ h => h)⟩
theorem CTnL.far {n : Nat} {w w' : World} {r : Tn} {cs : List Value} (h : CTnL n w r cs) (hs : ∀ k, n <= k -> k < w.heap.size -> w'.heap[k]? = w.heap[k]?) : CTn w' r cs := by
  obtain ⟨⟨vj, rfl, a⟩, hl⟩ := h
  exact ⟨vj, rfl, SlAt.far a (hl _ (by simp)) hs (fun _ _ h => h)⟩
theorem LayIn.far {n : Nat} {w : World} {v : Value} {L : Lay} (h : CLayL n w v L) : LayIn (fun k => n <= k /\ k < w.heap.size) w v L :=
  ⟨fun _ hk => hk.2, fun w' hs => by
    obtain ⟨vs, vr, vt, e, a, b, c, l1, l2, l3⟩ := h
    have hs' : ∀ k, n <= k -> k < w.heap.size -> w'.heap[k]? = w.heap[k]? := fun k h1 h2 => hs k ⟨h1, h2⟩
    exact ⟨vs, vr, vt, e, SlAt.far a l1 hs' (fun _ _ h => h), SlAt.far b l2 hs' (fun _ _ h => h.far hs'), SlAt.far c l3 hs' (fun _ _ h => h.far hs')⟩⟩
theorem PlanIn.far {n : Nat} {w1 w' : World} {T D Q : Int} {vh vr vt : Value} {L : Lay} (h : RPlanL n w1 (.agg #[.int .i64 T, .int .i64 D, .int .i64 Q, vh, vr, vt]) L) (hb : Below w1.heap.size w1 w') : PlanIn (fun k => n <= k /\ k < w1.heap.size) w' vh vr vt L := by
  refine ⟨fun k hk => Nat.lt_of_lt_of_le hk.2 hb.size, fun w2 hs => ?_⟩
  obtain ⟨vh', vr', vt', e, a, b, c, l1, l2, l3⟩ := h
  simp only [Value.agg.injEq, Array.mk.injEq, List.cons.injEq, and_true] at e
  obtain ⟨-, -, -, rfl, rfl, rfl⟩ := e
  have hs' : ∀ k, n <= k -> k < w1.heap.size -> w2.heap[k]? = w1.heap[k]? := fun k h1 h2 => (hs k ⟨h1, h2⟩).trans (hb.block k h2)
  exact ⟨SlAt.far a l1 hs' (fun _ _ h => h), SlAt.far b l2 hs' (fun _ _ h => h.far hs'), SlAt.far c l3 hs' (fun _ _ h => h.far hs')⟩
theorem lnsV_new (k : Nat) : lnsV (List.replicate k RLn0) (List.replicate k (.slice none 0 0)) = List.replicate k lnCells := by
  unfold lnsV
  rw [List.zipWith_replicate, Nat.min_self]
  rfl
theorem new_in {n : Nat} {w' : World} {g : Nat} {L : Lay} (h : RNewAt n w' g L) : RBoxIn w' (fun b => n <= b /\ b < w'.heap.size) g (RBx.init L) := by
  obtain ⟨w1, vh, vr, vt, vl, vw, vf, vd, va, hn, hP, hb, rfl, hbox, h1, h2, h3, h4, h5, h6⟩ := h
  have hz := hb.size
  have hlt := blk_lt hbox
  have hmem : ∀ m, m ∈ List.replicate L.rts.length (Value.slice none 0 0) -> m = .slice none 0 0 := fun m hm => List.eq_of_mem_replicate hm
  have hown : ∀ b, rOwn (w1.heap.size + 1) vl vw vf vd va (.slice none 0 0) (List.replicate L.rts.length (.slice none 0 0)) b -> w1.heap.size <= b /\ b < w'.heap.size := by
    intro b hb
    rcases hb with hb | hb | hb | hb | hb | hb | hb | ⟨m, hm, hb⟩
    · omega
    · have := h1.lt b hb; omega
    · have := h2.lt b hb; omega
    · have := h3.lt b hb; omega
    · have := h4.lt b hb; omega
    · have := h5.lt b hb; omega
    · cases hb
    · rw [hmem m hm] at hb; cases hb
  refine ⟨.slice none 0 0, fun k => n <= k /\ k < w1.heap.size, vh, vr, vt, vl, vw, vf, vd, va, List.replicate L.rts.length (.slice none 0 0), ?_, fun b hb => ⟨hb.1, by have := hb.2; omega⟩, fun b hb => hb.2, fun b hb => ⟨Nat.le_trans hn (hown b hb).1, (hown b hb).2⟩⟩
  refine { box := hbox, plan := PlanIn.far hP hb, lines := ?_, mlen := ?_, marks := ?_, wanted := ?_, failed := ?_, late := ?_, sta := ?_, waits := ?_, sfm := ?_, smm := ?_, sda := h6, sdq := ?_, saq := ?_, out := ?_ }
  · show w'.ownsRow 0 161 6 vl (List.replicate L.rts.length RLn0).length (lnsV (List.replicate L.rts.length RLn0) (List.replicate L.rts.length (.slice none 0 0))).flatten
    rw [lnsV_new, List.length_replicate]
    exact own_baseR h1 (Nat.zero_le _)
  · show (List.replicate L.rts.length (Value.slice none 0 0)).length = (List.replicate L.rts.length RLn0).length
    rw [List.length_replicate, List.length_replicate]
  · intro i a b
    have e1 : (List.replicate L.rts.length (Value.slice none 0 0))[i] = .slice none 0 0 := List.getElem_replicate _
    have e2 : (RBx.init L).lines[i] = RLn0 := List.getElem_replicate _
    rw [e1, e2]
    exact World.ownsRow_nil _ _ _ _
  · show w'.ownsRow 0 5 1 vw (L.sw.map (fun b => if b then 43 else 0)).length (bytsV (L.sw.map (fun b => if b then 43 else 0)))
    rw [List.length_map]
    exact own_baseR h2 (Nat.zero_le _)
  · show w'.ownsRow 0 4 1 vf (List.replicate L.sw.length false).length (boolsV (List.replicate L.sw.length false))
    rw [List.length_replicate]
    exact own_baseR h3 (Nat.zero_le _)
  · show w'.ownsRow 0 3 1 vd (List.replicate L.sw.length 0).length (intsV (List.replicate L.sw.length 0))
    rw [List.length_replicate]
    exact own_baseR h4 (Nat.zero_le _)
  · show w'.ownsRow 0 3 1 va (List.replicate L.tns.length 0).length (intsV (List.replicate L.tns.length 0))
    rw [List.length_replicate]
    exact own_baseR h5 (Nat.zero_le _)
  · exact World.ownsRow_nil _ _ _ _
  · intro m hm b hb
    rw [hmem m hm] at hb; cases hb
  · intro i j hi hj _ b hb
    rw [hmem _ (List.getElem_mem hi)] at hb; cases hb
  · intro b _ hb2; cases hb2
  · intro b _ hb2; cases hb2
  · intro b hb hR
    have := (hown b hb).1
    omega
end Go.Proofs.YtkbpocecbcaiiaaGreatDoor
namespace Go.Proofs.YtkbpocecbcaiiaaGreatDoor
open Go.RowKit
def PBx.nextR (B : PBx) (t : Nat) : Option Nat := if t < B.L.tns.length /\ t < B.sta.length then (B.L.tn t).jny[B.sta.getD t 0]? else none
set_option maxRecDepth 100000 in
set_option maxHeartbeats 2000000 in
theorem nextRoute_any (g : Nat) (B : PBx) (t : Nat) (w : World) (h : PBoxAt w g B) :
    Calls Tryz.prog 129 #[.pointer (some ⟨g, 0, none⟩), .int .i64 t] w fun e w' => e = .returned (.tuple #[.int .i64 (optN (B.nextR t)), .bool (B.nextR t).isSome]) /\ Below w.heap.size w w' := by
  obtain ⟨vs, vr, vt, vl, vw, va, vq, hB, hCL, -, -, hA, -⟩ := h
  have HHT := hide (HasTrain_any _ B.L t w hCL)
  obtain ⟨_, _, _, he, hS, hRo, hT⟩ := hCL
  simp only [Value.agg.injEq, Array.mk.injEq, List.cons.injEq, and_true, true_and] at he
  obtain ⟨rfl, rfl, rfl⟩ := he
  obtain ⟨⟨q0, q1, q2, q3, q4, q5, -, -, q8, -⟩, -, qg⟩ := box10 hB
  obtain ⟨b1, e1, rfl, -⟩ := SlAt.open hS
  obtain ⟨b2, e2, rfl, -⟩ := SlAt.open hRo
  obtain ⟨b3, e3, rfl, -, m3, t3⟩ := SlAt.open hT
  obtain ⟨b4, e4, rfl, -, m4, a3⟩ := SlAt.open hA
  unfold maxLen at m3 m4
  obtain ⟨Z, hZ⟩ : ∃ Z, Z = B.nextR t := ⟨_, rfl⟩
  rw [<- hZ]
  unfold PBx.nextR at hZ
  have HBX := hide (And.intro q5 q8)
  have l0 : (0 : Int) <= t := by omega
  clear hS hRo hT hA hB
  by_cases ht : t < B.L.tns.length
  · rw [decide_eq_true ht] at HHT
    have l1 : (t : Int) < B.L.tns.length := by omega
    by_cases hs : t < B.sta.length
    · rw [if_pos ⟨ht, hs⟩, tn_eq B.L t ht, getD_at _ _ _ hs] at hZ
      obtain ⟨gt, ot, rfl, hgt, cs, -, hC, hc⟩ := t3 t ht
      obtain ⟨vj, rfl, hJ⟩ := hC
      obtain ⟨aj, cj, rfl, -, mj, j3⟩ := SlAt.open hJ
      unfold maxLen at mj
      have d1 := hc 1 (by omega)
      simp at d1
      obtain ⟨ga, oa, rfl, hga, csa, -, hCa, hca⟩ := a3 t hs
      unfold CInt at hCa
      subst hCa
      have x0 := hca 0 (by omega)
      simp at x0
      have l2 : (t : Int) < B.sta.length := by omega
      have l2' : ¬ (B.sta.length : Int) <= t := by omega
      have J3 := hide j3
      have HC := hide (And.intro d1 x0)
      clear hc hca t3 a3 hJ j3 d1 x0
      generalize B.L.tns[t].jny = J at *
      generalize B.sta[t] = c at *
      generalize B.L.tns.length = nt at *
      generalize B.sta.length = ns at *
      clear ht hs
      go_enter Tryz.func129, Tryz.ntmps129
      go_wp2_with fail
      refine (uh HHT).mono ?_
      rintro e w1 ⟨rfl, hb1⟩
      have HB1 := hide hb1
      clear q0 q1 q2 q3 q4 q5 q8
      obtain ⟨q5, q8⟩ := uh HBX
      obtain ⟨d1, x0⟩ := uh HC
      rw [<- hb1.cell (p := ⟨g, _, none⟩) qg] at q5 q8
      rw [<- hb1.cell (p := ⟨gt, _, none⟩) hgt] at d1
      rw [<- hb1.cell (p := ⟨ga, _, none⟩) hga] at x0
      by_cases hcl : c < J.length
      · rw [List.getElem?_eq_getElem hcl] at hZ
        obtain ⟨gj, oj, hj, hgj, csj, -, hCj, hcj⟩ := uh J3 c hcl
        subst hj
        unfold CInt at hCj
        subst hCj
        have z0 := hcj 0 (by omega)
        simp at z0
        rw [<- hb1.cell (p := ⟨gj, _, none⟩) hgj] at z0
        have l3 : (c : Int) < J.length := by omega
        have l4 : ¬ (c : Int) < 0 := by omega
        have l5 : (0 : Int) <= c := by omega
        have l6 : ¬ (J.length : Int) <= c := by omega
        have HZ := hide hZ
        clear hcj hb1 hZ
        generalize J[c] = r at *
        clear hcl
        go_wp2
        go_ret2
        exact ⟨by rw [uh HZ]; rfl, uh HB1⟩
      · have hz : Z = none := by rw [hZ, List.getElem?_eq_none (by omega)]
        have HZ := hide hz
        have l4 : ¬ (c : Int) < 0 := by omega
        have l6 : (J.length : Int) <= c := by omega
        clear hb1 hZ hcl hz
        go_wp2
        go_ret2
        exact ⟨by rw [uh HZ]; rfl, uh HB1⟩
    · rw [if_neg (fun h => hs h.2)] at hZ
      have HZ := hide hZ
      have l2 : (B.sta.length : Int) <= t := by omega
      clear t3 a3 ht hs hZ
      generalize B.L.tns.length = nt at *
      generalize B.sta.length = ns at *
      go_enter Tryz.func129, Tryz.ntmps129
      go_wp2_with fail
      refine (uh HHT).mono ?_
      rintro e w1 ⟨rfl, hb1⟩
      have HB1 := hide hb1
      clear q0 q1 q2 q3 q4 q5 q8
      obtain ⟨q5, q8⟩ := uh HBX
      rw [<- hb1.cell (p := ⟨g, _, none⟩) qg] at q5 q8
      clear hb1
      go_wp2
      go_ret2
      exact ⟨by rw [uh HZ]; rfl, uh HB1⟩
  · rw [if_neg (fun h => ht h.1)] at hZ
    have HZ := hide hZ
    rw [decide_eq_false ht] at HHT
    clear t3 a3 ht hZ
    go_enter Tryz.func129, Tryz.ntmps129
    go_wp2_with fail
    refine (uh HHT).mono ?_
    rintro e w1 ⟨rfl, hb1⟩
    have HB1 := hide hb1
    clear q0 q1 q2 q3 q4 q5 q8 hb1
    go_wp2
    go_ret2
    exact ⟨by rw [uh HZ]; rfl, uh HB1⟩
theorem PM.appendWaits {w w1 : World} {R : Nat -> Prop} {g : Nat} {B : PBx} {vs vr vt vl vw va vq : Value} {qs : List Q3} {o : Obj} {g' cap t : Nat} (h : PM w R g B vs vr vt vl vw va vq qs)
    (hown : w1.ownsRow 0 3 1 (.slice (some ⟨g', 0, none⟩) (B.waits.length + 1) cap) (B.waits.length + 1) (intsV B.waits ++ [.int .i64 t])) (hg : (w.alloc o).grownBy w1 vq.ownBlock) (hat : vq.ownBlock = some g' \/ g' = w.heap.size + 1) :
    PM (w1.setCell ⟨g, 9, none⟩ (.slice (some ⟨g', 0, none⟩) (B.waits.length + 1) cap)) R g { B with waits := B.waits ++ [t] } vs vr vt vl vw va (.slice (some ⟨g', 0, none⟩) (B.waits.length + 1) cap) qs := by
  have hk : ∀ e, 3 ≠ e -> Keeps e w w1 := fun e he => append_keeps h.waits hg he
  have hbox : w1.heap[g]? = _ := (hk _ (by decide) _ _ _ h.box).trans h.box
  have hT : Typed w1 g 87 := ⟨_, _, hbox⟩
  have ks : ∀ e, 87 ≠ e -> Keeps e w1 (w1.setCell ⟨g, 9, none⟩ (.slice (some ⟨g', 0, none⟩) (B.waits.length + 1) cap)) := fun e he => Keeps.setCell _ _ hT he
  have kk := fun e (h1 : 3 ≠ e) (h2 : 87 ≠ e) => (hk e h1).trans (ks e h2)
  have hblk : ∀ k, k < w.heap.size -> vq.ownBlock ≠ some k -> w1.heap[k]? = w.heap[k]? := fun k hk hn => by
    rw [hg.block k (by simp; omega) (fun e => hn e.symm)]
    exact Below.heap_alloc _ _ _ hk
  have hsz : w.heap.size <= w1.heap.size := by have := hg.size; simp at this; omega
  have hsR : SameOn R w (w1.setCell ⟨g, 9, none⟩ (.slice (some ⟨g', 0, none⟩) (B.waits.length + 1) cap)) := fun k hkR => by
    rw [Below.heap_setCell _ _ _ _ (fun e => h.out g (.inl rfl) (by have e' : k = g := e; rw [e'] at hkR; exact hkR))]
    exact hblk k (h.plan.1 k hkR) (fun e => h.out k (.inr (.inr (.inr (.inr (.inl e))))) hkR)
  refine { box := ?_, plan := ?_, items := ?_, routes := ?_, qlen := h.qlen, marks := ?_, sws := ?_, sta := ?_, waits := ?_, smm := h.smm, saq := ?_, out := ?_ }
  · exact blk_setCell _ hbox
  · exact h.plan.same hsR (by simp [World.setCell]; exact hsz)
  · exact h.items.same hsR
  · exact ownsRow_keep h.routes (kk _ (by decide) (by decide))
  · exact fun i a b => ownsRow_keep (h.marks i a b) (kk _ (by decide) (by decide))
  · exact ownsRow_keep h.sws (kk _ (by decide) (by decide))
  · have h1 := (h.sta.alloc o).kept hg (by
      cases hv : va.ownBlock with
      | none => exact .inl rfl
      | some b => exact .inr (fun e => h.saq b hv e.symm))
    exact ownsRow_keep h1 (ks _ (by decide))
  · have h1 := ownsRow_keep hown (ks _ (by decide))
    have e : intsV B.waits ++ [.int .i64 (t : Int)] = intsV (B.waits ++ [t]) := (intsV_snoc _ _).symm
    rw [e] at h1
    simpa using h1
  · intro b hb e
    have e' : g' = b := by simpa [Value.ownBlock] using e
    rcases hat with h1 | h1
    · exact h.saq b hb (by rw [<- e']; exact h1)
    · have := (h.sta.lt b hb).2; omega
  · intro b hb
    rcases hb with hb | hb | hb | hb | hb | hb
    · exact h.out b (.inl hb)
    · exact h.out b (.inr (.inl hb))
    · exact h.out b (.inr (.inr (.inl hb)))
    · exact h.out b (.inr (.inr (.inr (.inl hb))))
    · have e' : g' = b := by simpa [Value.ownBlock] using hb
      subst e'
      rcases hat with h1 | h1
      · exact h.out g' (.inr (.inr (.inr (.inr (.inl h1)))))
      · intro hR
        have := h.plan.1 _ hR
        omega
    · exact h.out b (.inr (.inr (.inr (.inr (.inr hb)))))
def PBx.askA (B : PBx) (t : Nat) : Nat := if (B.nextR t).isSome then (if B.waits.contains t then 116 else if B.L.Q <= B.waits.length then 102 else 113) else 100
def PBx.ask (B : PBx) (t : Nat) : PBx := if B.askA t = 113 then { B with waits := B.waits ++ [t] } else B
set_option maxRecDepth 100000 in
set_option maxHeartbeats 4000000 in
theorem request_any (R : Nat -> Prop) (g : Nat) (B : PBx) (vs vr vt vl vw va vq : Value) (qs : List Q3) (t : Nat) (w : World) (h : PM w R g B vs vr vt vl vw va vq qs) (hwl : B.waits.length <= 1000) :
    Calls Tryz.prog 88 #[.pointer (some ⟨g, 0, none⟩), .int .i64 t] w fun e w' => e = .returned (.int .u8 (B.askA t)) ∧
      (∃ vq', PM w' R g (B.ask t) vs vr vt vl vw va vq' qs /\ ∀ b, vq'.ownBlock = some b -> vq.ownBlock = some b \/ w.heap.size <= b) /\ Only (fun b => b = g \/ vq.ownBlock = some b) w w' := by
  have HNR := hide (nextRoute_any g B t w h.at)
  obtain ⟨aq, cq, hvq⟩ := slice_of_own h.waits
  subst hvq
  have HM := hide h
  have HAS := hide (PBx.ask.eq_1 B t)
  have HAA := hide (PBx.askA.eq_1 B t)
  obtain ⟨i0, hi0⟩ := info_parts Tryz.infoInt
  have HII := hide hi0
  have hqi : Ints w (.slice aq B.waits.length cq) B.waits := Ints.ofOwn h.waits rfl
  obtain ⟨aq', cq', he, hcq1, hcq2, w3⟩ := SlAt.open hqi
  simp only [Value.slice.injEq, true_and] at he
  obtain ⟨rfl, rfl⟩ := he
  unfold maxLen at hcq2
  obtain ⟨nw, hnw⟩ : ∃ n, n = B.waits.length := ⟨_, rfl⟩
  have HNW := hide hnw
  have HW3 := hide w3
  have qg := blk_lt h.box
  obtain ⟨Z, hZ⟩ : ∃ Z, B.askA t = Z := ⟨_, rfl⟩
  rw [hZ] at HAS HAA ⊢
  rw [<- hnw] at HAA hwl hcq1 HM ⊢
  clear hZ hi0 h hqi w3 hnw
  go_enter Tryz.func88, Tryz.ntmps88
  go_wp2_with fail
  refine (uh HNR).mono ?_
  rintro e w1 ⟨rfl, hb1⟩
  have HB1 := hide hb1
  have HM1 := hide ((uh HM).below hb1)
  obtain ⟨⟨-, -, q2, -, -, -, -, -, -, q9⟩, ⟨-, -, -, f9⟩, qg1⟩ := box10 (uh HM1).box
  clear hb1 HNR
  obtain ⟨o, ho⟩ : ∃ o, B.nextR t = o := ⟨_, rfl⟩
  rw [ho] at HAA ⊢
  clear ho
  have HSAME := hide (show ∀ n, PM (w1.drewN n) R g B vs vr vt vl vw va (.slice aq nw cq) qs /\ Only (fun b => b = g \/ (Value.slice aq nw cq).ownBlock = some b) w (w1.drewN n) from fun n =>
    ⟨(uh HM1).below (below_drewN (Below.refl _ _) n), Only.of_below (below_drewN (uh HB1) n)⟩)
  cases o with
  | none =>
    have hz : Z = 100 := uh HAA
    subst hz
    rw [if_neg (by simp)] at HAS
    clear q2 q9 f9
    simp only [optN, Option.isSome]
    go_wp2
    go_ret
    exact ⟨rfl, ⟨_, by rw [uh HAS]; exact uh HM1, fun b hb => Or.inl hb⟩, Only.of_below (uh HB1)⟩
  | some r =>
    rw [show (some r).isSome = true from rfl, if_pos rfl] at HAA
    simp only [optN, Option.isSome]
    go_wp2
    go_loopw [22] (fun i wr => ∃ k : Nat, i = .int .i64 k /\ k <= nw /\ (∀ j, j < k -> ∀ h : j < B.waits.length, B.waits[j] ≠ t) /\ wr = w1) (fun i _ => nw - (intOf i).toNat)
    case atStart => exact ⟨0, rfl, Nat.zero_le _, fun j h => by omega, rfl⟩
    case round =>
      obtain ⟨k, rfl, hk, hno, rfl⟩ := hrel
      have HNO := hide hno
      clear hno
      by_cases hlt : k < nw
      · have hkB : k < B.waits.length := by rw [<- uh HNW]; exact hlt
        obtain ⟨gq, oq, hq, hgq, csq, -, hCq, hcq⟩ := uh HW3 k hkB
        subst hq
        unfold CInt at hCq
        subst hCq
        have x0 := hcq 0 (by omega)
        simp at x0
        rw [<- (uh HB1).cell (p := ⟨gq, _, none⟩) hgq] at x0
        have l1 : (k : Int) < nw := by omega
        have l0 : (0 : Int) <= k := by omega
        have HFD := hide (show B.waits[k] = t -> Z = 116 by
          intro he
          rw [uh HAA, if_pos]
          rw [List.contains_iff_mem]
          rw [<- he]; exact List.getElem_mem hkB)
        have HNN := hide (show B.waits[k] ≠ t -> ∀ j, j < k + 1 -> ∀ h : j < B.waits.length, B.waits[j] ≠ t by
          intro h j hj hj2
          by_cases hj' : j < k
          · exact uh HNO j hj' hj2
          · obtain rfl : j = k := by omega
            exact h)
        clear hcq
        generalize B.waits[k] = x at *
        clear hkB
        by_cases hxt : x = t
        · have hz := uh HFD hxt
          have b1 : ((x : Int) == t) = true := by simp [hxt]
          subst hz
          rw [if_neg (by simp)] at HAS
          clear hxt
          go_wp2
          go_ret
          exact ⟨rfl, ⟨_, by rw [uh HAS]; exact uh HM1, fun b hb => Or.inl hb⟩, Only.of_below (uh HB1)⟩
        · have HN2 := hide (uh HNN hxt)
          have b1 : ((x : Int) == t) = false := by simp; omega
          go_wp2
          exact ⟨⟨k + 1, by go_num, by omega, uh HN2, by trivial⟩, by simp [intOf]; omega⟩
      · obtain rfl : k = nw := by omega
        have HA2 := hide (show Z = if B.L.Q <= k then 102 else 113 by
          rw [uh HAA, if_neg]
          rw [List.contains_iff_mem]
          intro hm
          obtain ⟨j, hj, he⟩ := List.getElem_of_mem hm
          exact uh HNO j (by rw [uh HNW]; exact hj) hj he)
        have l1 : ¬ (k : Int) < k := by omega
        have HBOX := hide (uh HM1).box
        have hown1 := (uh HM1).waits
        rw [<- uh HNW] at hown1
        have HOWN := hide (show ∀ n, (wr.drewN n).ownsRow 0 3 1 (.slice aq k cq) k (intsV B.waits) from fun n => hown1)
        have HBXN := hide (show ∀ n, (wr.drewN n).heap[g]? = _ from fun n => uh HBOX)
        clear hown1
        obtain ⟨qq, hqq⟩ : ∃ n, B.L.Q = n := ⟨_, rfl⟩
        rw [hqq] at HA2 q2
        clear hqq
        by_cases h3 : qq <= k
        · have hz : Z = 102 := by rw [uh HA2, if_pos h3]
          have b3 : (qq : Int) <= k := by omega
          subst hz
          rw [if_neg (by simp)] at HAS
          clear h3
          go_wp2
          go_quiet (fail)
          go_wp2
          go_ret
          exact ⟨rfl, ⟨_, by rw [uh HAS]; exact (uh HSAME _).1, fun b hb => Or.inl hb⟩, (uh HSAME _).2⟩
        · have hz : Z = 113 := by rw [uh HA2, if_neg h3]
          have b3 : ¬ (qq : Int) <= k := by omega
          subst hz
          rw [if_pos rfl] at HAS
          clear h3
          go_wp2
          go_quiet (fail)
          go_wp2_with (at_builtin; refine wpList_append_lies _ rfl _ _ 50 rfl 0 3 i0 (.int .i64 0) 1 8 Tryz.underlying50 (uh HII).1 (uh HII).2.1 (uh HII).2.2.1 (uh HII).2.2.2 rfl (by decide) (.slice aq k cq) k (intsV B.waits) rfl (World.ownsRow.alloc (uh HOWN _) _) ⟨wr.heap.size, 0, none⟩ 1 1 [.int .i64 t] rfl rfl (one_new _ _ _) (one_cell1 rfl) (by decide) (by unfold maxLen; omega) (by omega) (Nat.zero_le _) _ rfl ?_; intro g4 c4 w4 hown4 hgrow4 hat4 hlt4; have hbx4 := (append_keeps (uh HOWN _) hgrow4 (by decide) _ _ _ (uh HBXN _)).trans (uh HBXN _); obtain ⟨⟨p0, p1, p2, p3, p4, p5, p6, p7, p8, p9⟩, ⟨-, -, -, f49⟩, qg4⟩ := box10 hbx4)
          have hn := uh HNW
          have hat5 := hat4.imp (fun e => e) (fun e => show g4 = wr.heap.size + 1 by rw [e]; simp)
          have hPM := ((uh HSAME _).1).appendWaits (t := t) (by rw [<- hn]; exact hown4) hgrow4 hat5
          rw [<- hn] at hPM
          have hO := ((uh HSAME _).2.trans ((only_grown hgrow4).mono (G := fun b => b = g \/ (Value.slice aq k cq).ownBlock = some b) (fun k hk => Or.inr hk))).trans (Only.setCell (a := ⟨g, 9, none⟩) (Or.inl rfl) (.slice (some ⟨g4, 0, none⟩) (k + 1) c4))
          have hws := (uh HB1).size
          have HFIN := hide (And.intro hPM (And.intro hO hat5))
          clear hPM hO hat5 hat4 hgrow4 hown4 hbx4 hn
          go_ret
          refine ⟨rfl, ⟨_, by rw [uh HAS]; exact (uh HFIN).1, fun b hb => ?_⟩, (uh HFIN).2.1⟩
          have e' : g4 = b := by simpa [Value.ownBlock] using hb
          subst e'
          rcases (uh HFIN).2.2 with h | h
          · exact .inl h
          · exact .inr (by omega)
end Go.Proofs.YtkbpocecbcaiiaaGreatDoor
