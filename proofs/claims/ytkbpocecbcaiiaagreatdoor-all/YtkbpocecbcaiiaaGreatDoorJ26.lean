import Derived.Test.YtkbpocecbcaiiaaGreatDoorJ2
namespace Go.Proofs.YtkbpocecbcaiiaaGreatDoor
open Go.RowKit
def Lay.undone (L : Lay) (at_ : List Nat) : Nat := ((List.range at_.length).filter (fun t => !L.doneB at_ t)).length
theorem filter_lt_of (p q : Nat -> Bool) (l : List Nat) (h : ∀ x, x ∈ l -> q x = true -> p x = true) (t : Nat) (ht : t ∈ l) (hp : p t = true) (hq : q t = false) :
  (l.filter q).length < (l.filter p).length := by
 induction l with
 | nil => cases ht
 | cons a l ih =>
  have hle : ∀ l : List Nat, (∀ x, x ∈ l -> q x = true -> p x = true) -> (l.filter q).length <= (l.filter p).length := by
   intro l
   induction l with
   | nil => intro _; simp
   | cons b l ih2 =>
    intro h
    have := ih2 (fun x hx => h x (List.mem_cons_of_mem _ hx))
    by_cases hb : q b = true
    ·have := h b (List.mem_cons_self ..) hb
     simp [hb, this]; omega
    ·by_cases hb' : p b = true <;> simp [hb, hb'] <;> omega
  by_cases ha : a = t
  ·subst ha
   have := hle l (fun x hx => h x (List.mem_cons_of_mem _ hx))
   simp [hp, hq]; omega
  ·have := ih (fun x hx => h x (List.mem_cons_of_mem _ hx)) (by simpa [Ne.symm ha] using ht)
   by_cases hb : q a = true
   ·have := h a (List.mem_cons_self ..) hb
    simp [hb, this]; omega
   ·by_cases hb' : p a = true <;> simp [hb, hb'] <;> omega
theorem done_with (L : Lay) (at_ : List Nat) (t x : Nat) (ht : t < at_.length) : L.doneB (L.withN at_ t) x = if x = t then true else L.doneB at_ x := by
 unfold Lay.doneB Lay.withN
 by_cases h : x = t
 ·subst h; simp [List.getD_eq_getElem?_getD, ht]
 ·simp [h, List.getD_eq_getElem?_getD, Ne.symm h]
theorem undone_with (L : Lay) (at_ : List Nat) (t : Nat) (ht : t < at_.length) (hd : L.doneB at_ t = false) : L.undone (L.withN at_ t) < L.undone at_ := by
 unfold Lay.undone
 have hl : (L.withN at_ t).length = at_.length := by simp [Lay.withN]
 rw [hl]
 refine filter_lt_of _ _ _ ?_ t (List.mem_range.2 ht) (by simp [hd]) ?_
 ·intro x _
  rw [done_with L at_ t x ht]
  by_cases h : x = t <;> simp [h]
 ·rw [done_with L at_ t t ht]; simp
theorem undone_pos (L : Lay) (at_ : List Nat) (t : Nat) (ht : t < at_.length) (hd : L.doneB at_ t = false) : 0 < L.undone at_ := by
 unfold Lay.undone
 exact List.length_pos_of_mem (a := t) (by simp [List.mem_filter, ht, hd])
theorem soundF_true (L : Lay) (f : Nat) (at_ : List Nat) (t : Nat) (ht : t < at_.length) (hd : L.doneB at_ t = false) (hr : L.runsB at_ t = true) (hs : L.soundF f (L.withN at_ t) = true) : L.soundF (f + 1) at_ = true := by
 simp only [Lay.soundF, Bool.or_eq_true, List.any_eq_true]
 exact .inr ⟨t, List.mem_range.2 ht, by simp [hd, hr, hs]⟩
theorem soundF_end (L : Lay) (f : Nat) (at_ : List Nat) (h : ∀ t, t < at_.length -> L.doneB at_ t = true \/ ∀ f', f = f' + 1 -> (L.runsB at_ t && L.soundF f' (L.withN at_ t)) = false) : L.soundF f at_ = L.allDone at_ := by
 cases f with
 | zero => rfl
 | succ f =>
  simp only [Lay.soundF]
  have : (List.range at_.length).any (fun t => !L.doneB at_ t && L.runsB at_ t && L.soundF f (L.withN at_ t)) = false := by
   rw [List.any_eq_false]
   intro t ht
   rcases h t (List.mem_range.1 ht) with h | h
   ·simp [h]
   ·have := h f rfl
    rw [Bool.and_assoc, this]; simp
  rw [this, Bool.or_false]
theorem all_range_succ (p : Nat -> Bool) (n : Nat) : (List.range (n + 1)).all p = ((List.range n).all p && p n) := by
 rw [List.range_succ, List.all_append]; simp
def SoundAt (L : Lay) (f : Nat) : Prop := ∀ (v va : Value) (at_ : List Nat) (w : World), RPlan w v L -> Ints w va at_ -> at_.length = L.tns.length -> L.undone at_ <= f →
  Calls Tryz.prog 106 #[v, va] w fun e w' => e = .returned (.bool (L.soundF f at_)) /\ Below w.heap.size w w'
set_option maxHeartbeats 1000000 in
theorem sound_step (L : Lay) (f : Nat) (hp : L.Paths) (hj : L.Jnys) (hsm : L.tns.length <= 1000) (IH : ∀ f', f = f' + 1 -> SoundAt L f') : SoundAt L f := by
 intro v va at_ w h ha hl hu
 have HR := zh h
 have HA := zh ha
 obtain ⟨vh, vr, vt, rfl, -, -, hT⟩ := h
 obtain ⟨ao, cap, rfl, h1, h2, h3⟩ := SlAt.open hT
 obtain ⟨aoa, capa, rfl, a1, a2, a3⟩ := SlAt.open ha
 have HL := zh hl
 have HP := zh hp
 have HJ := zh hj
 have HI := zh IH
 have hsm2 : at_.length <= 1000 := by omega
 clear hT ha IH hp hj
 unfold maxLen at h2 a2
 generalize hzz : L.soundF f at_ = z
 have HZ := zh hzz
 clear hzz
 go_enter Tryz.func106, Tryz.ntmps106
 go_wp2
 go_loopw [5, 6] (fun b i wr => ∃ t : Nat, i = .int .i64 t /\ t <= at_.length /\ b = .bool ((List.range t).all (fun t => L.doneB at_ t)) ∧
   (∀ t', t' < t -> L.doneB at_ t' = true \/ ∀ f', f = f' + 1 -> (L.runsB at_ t' && L.soundF f' (L.withN at_ t')) = false) ∧
   Below (w.heap.size + 1) (w.alloc (z0v L vh vr (.slice ao L.tns.length cap))) wr) (fun _ i _ => at_.length - (intOf i).toNat)
 case atStart => exact ⟨0, rfl, Nat.zero_le _, rfl, fun t' h => by omega, Below.refl _ _⟩
 case round =>
  obtain ⟨t, rfl, htl, rfl, hz, hb⟩ := hrel
  have HQ := zh hz
  have HB := zh hb
  obtain ⟨q0, q1, q2, q3, q4, q5, qs⟩ := z15 hb
  clear hz
  have HAS := zh (all_range_succ (fun t => L.doneB at_ t) t)
  generalize hall : (List.range t).all (fun t => L.doneB at_ t) = ball
  have HALL := zh hall
  clear hall
  by_cases hlt : t < at_.length
  ·have htL : t < L.tns.length := by omega
   obtain ⟨g, off, hao, hg, cs, -, hC, hc⟩ := h3 t htL
   subst hao
   obtain ⟨vj, rfl, hJ⟩ := hC
   have hc1 := hc 1 (by omega)
   rw [<- (z05 hb).cell (p := ⟨g, _, none⟩) hg] at hc1
   obtain ⟨aoj, capj, rfl, j1, j2, -⟩ := SlAt.open hJ
   obtain ⟨ga, offa, hao, hga, cs2, -, hC2, hd⟩ := a3 t hlt
   subst hao
   unfold CInt at hC2
   subst hC2
   have hd0 := hd 0 (by omega)
   rw [<- (z05 hb).cell (p := ⟨ga, _, none⟩) hga] at hd0
   have HD := zh (show L.doneB at_ t = decide (L.tns[t].jny.length <= at_[t]) by simp only [Lay.doneB, tn_eq L t htL, getD_eq at_ t hlt])
   have HW := zh (show L.withN at_ t = at_.set t L.tns[t].jny.length by simp only [Lay.withN, tn_eq L t htL])
   simp at hc1 hd0
   clear hc hd h3 a3 hJ hb hl
   unfold maxLen at j2
   generalize L.tns[t].jny = jl at *
   generalize at_[t] = n at *
   by_cases hdone : jl.length <= n
   ·have hdt := zh (show L.doneB at_ t = true by rw [uh HD]; simpa using hdone)
    go_wp2
    refine ⟨⟨t + 1, by go_num, by omega, by rw [uh HAS, uh HALL, uh hdt, Bool.and_true], fun t' h => ?_, uh HB⟩, by simp [intOf]; omega⟩
    rcases Nat.lt_or_ge t' t with h' | h'
    ·exact uh HQ t' h'
    ·obtain rfl : t' = t := by omega
     exact .inl (uh hdt)
   ·have hdt := zh (show L.doneB at_ t = false by rw [uh HD]; simpa using hdone)
    obtain ⟨f', hf'⟩ : ∃ f', f = f' + 1 := ⟨f - 1, by have := undone_pos L at_ t hlt (uh hdt); omega⟩
    have hu' : L.undone (L.withN at_ t) <= f' := by have := undone_with L at_ t hlt (uh hdt); omega
    have HF := zh hf'
    have HU := zh hu'
    clear hf' hu' hu
    cases hrun : L.runsB at_ t with
    | false =>
     have HRUN := zh hrun
     clear hrun
     go_wp2_with (go_at_call 107; refine (runs_any _ _ L at_ t _ ((uh HR).below (z05 (uh HB))) ((uh HA).below (z05 (uh HB))) hlt (uh HL) (uh HP) (uh HJ)).mono ?_; rw [uh HRUN]; rintro e w' ⟨rfl, hb'⟩)
     have hb4 := (uh HB).trans (hb'.mono (B' := w.heap.size + 1) qs)
     refine ⟨⟨t + 1, by go_num, by omega, by rw [uh HAS, uh hdt, Bool.and_false], fun t' h => ?_, hb4⟩, by simp [intOf]; omega⟩
     rcases Nat.lt_or_ge t' t with h' | h'
     ·exact uh HQ t' h'
     ·obtain rfl : t' = t := by omega
      exact .inr (fun _ _ => by rw [uh HRUN, Bool.false_and])
    | true =>
     have HRUN := zh hrun
     clear hrun
     go_wp2_with (go_at_call 107; refine (runs_any _ _ L at_ t _ ((uh HR).below (z05 (uh HB))) ((uh HA).below (z05 (uh HB))) hlt (uh HL) (uh HP) (uh HJ)).mono ?_; rw [uh HRUN]; rintro e w' ⟨rfl, hb'⟩)
     have hb4 := (uh HB).trans (hb'.mono (B' := w.heap.size + 1) qs)
     refine (with_any _ at_ t jl.length _ ((uh HA).below (z05 hb4)) hsm2).mono ?_
     rintro e w2 ⟨v2, rfl, hI2, hb2⟩
     have hb5 := hb4.trans (hb2.mono (B' := w.heap.size + 1) (by have := hb'.size; omega))
     have HB5 := zh hb5
     clear q0 q1 q2 q3 q4 q5 qs hc1 hd0 hb4
     obtain ⟨q0, q1, q2, q3, q4, q5, qs⟩ := z15 hb5
     have HI2 := zh hI2
     clear hb5 hI2 hb2 hb'
     rw [<- uh HW] at HI2
     cases hs : L.soundF f' (L.withN at_ t) with
     | false =>
      have HS := zh hs
      clear hs
      go_wp2_with (go_at_call 106; refine (uh HI f' (uh HF) _ v2 (L.withN at_ t) _ ((uh HR).below (z05 (uh HB5))) (uh HI2) (by simpa [Lay.withN] using uh HL) (uh HU)).mono ?_; rw [uh HS]; rintro e w' ⟨rfl, hb'⟩)
      have hb6 := (uh HB5).trans (hb'.mono (B' := w.heap.size + 1) qs)
      refine ⟨⟨t + 1, by go_num, by omega, by rw [uh HAS, uh hdt, Bool.and_false], fun t' h => ?_, hb6⟩, by simp [intOf]; omega⟩
      rcases Nat.lt_or_ge t' t with h' | h'
      ·exact uh HQ t' h'
      ·obtain rfl : t' = t := by omega
       refine .inr (fun f2 hf2 => ?_)
       obtain rfl : f2 = f' := by have := uh HF; omega
       rw [uh HS, Bool.and_false]
     | true =>
      have HS := zh hs
      clear hs
      go_wp2_with (go_at_call 106; refine (uh HI f' (uh HF) _ v2 (L.withN at_ t) _ ((uh HR).below (z05 (uh HB5))) (uh HI2) (by simpa [Lay.withN] using uh HL) (uh HU)).mono ?_; rw [uh HS]; rintro e w' ⟨rfl, hb'⟩)
      have hb6 := z05 ((uh HB5).trans (hb'.mono (B' := w.heap.size + 1) qs))
      have hz := zh (show z = true by rw [<- uh HZ, uh HF]; exact soundF_true L f' at_ t hlt (uh hdt) (uh HRUN) (uh HS))
      go_ret
      exact ⟨z04 (uh hz).symm, hb6⟩
  ·obtain rfl : t = at_.length := by omega
   have hz := zh (show z = ball by rw [<- uh HZ, <- uh HALL]; exact soundF_end L f at_ (uh HQ))
   have hb6 := z05 (uh HB)
   clear hb hl h3 a3
   go_wp2
   go_ret
   exact ⟨z04 (uh hz).symm, hb6⟩
theorem sound_all (L : Lay) (hp : L.Paths) (hj : L.Jnys) (hsm : L.tns.length <= 1000) (f : Nat) : SoundAt L f := by
 induction f with
 | zero => exact sound_step L 0 hp hj hsm (fun f' h => by omega)
 | succ f ih =>
  refine sound_step L (f + 1) hp hj hsm (fun f' h => ?_)
  have e : f' = f := by omega
  rw [e]; exact ih
theorem undone_le (L : Lay) (at_ : List Nat) : L.undone at_ <= at_.length := by
 unfold Lay.undone
 have := List.length_filter_le (fun t => !L.doneB at_ t) (List.range at_.length)
 simpa using this
theorem sound_any (v va : Value) (L : Lay) (at_ : List Nat) (w : World) (h : RPlan w v L) (ha : Ints w va at_) (hl : at_.length = L.tns.length) (hp : L.Paths) (hj : L.Jnys) (hsm : L.tns.length <= 1000) :
  Calls Tryz.prog 106 #[v, va] w fun e w' => e = .returned (.bool (L.sound at_)) /\ Below w.heap.size w w' :=
 sound_all L hp hj hsm at_.length v va at_ w h ha hl (undone_le L at_)
end Go.Proofs.YtkbpocecbcaiiaaGreatDoor
