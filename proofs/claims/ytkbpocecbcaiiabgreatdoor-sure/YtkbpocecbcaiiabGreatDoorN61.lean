import Derived.Test.YtkbpocecbcaiiabGreatDoorN56
import Derived.Test.YtkbpocecbcaiiabGreatDoorN55
namespace Go.Proofs.YtkbpocecbcaiiabGreatDoor
open Go.RowKit
def z22 (s a : ByteArray) : List Nat := (z1r (layL s).2.2.tns.length ((layL s).2.2.stsAt (digs a.data.toList))).1
def ansOf (s a : ByteArray) : ByteArray × Nat :=
 if (ordOf s a).2 ≠ 0 then (⟨#[]⟩, (ordOf s a).2)
 else if (ordOf s a).1 = false then (⟨#[]⟩, 8)
 else (z21 (z22 s a), 0)
set_option maxHeartbeats 1000000 in
theorem lOrder_any (s a : ByteArray) (w : World) (hP : ReadPaths s) (hB : (ordOf s a).1 = true -> (z22 s a).length <= 1000 /\ ∀ t, t ∈ z22 s a -> t < 9) :
  Calls Tryz.prog 48 #[.string s, .string a] w fun e w' => e = .returned (.tuple #[.string (ansOf s a).1, .int .i64 (ansOf s a).2]) /\ Below w.heap.size w w' := by
 have H := zh (orderFrom_any s a w hP)
 change Hid (Calls _ _ _ _ (fun e w' => ∃ (ao : Option Addr) (no co : Nat), _ /\ (_ -> Ints w' (.slice ao no co) (z22 s a)) /\ _)) at H
 obtain ⟨Z, hZ⟩ : ∃ Z, Z = ansOf s a := ⟨_, rfl⟩
 rw [<- hZ]
 unfold ansOf at hZ
 have HZ := zh hZ
 have HB := zh hB
 generalize ordOf s a = E at *
 generalize z22 s a = o at *
 obtain ⟨b, n⟩ := E
 simp only at H HZ HB
 clear hP hZ hB
 go_enter Tryz.func48, Tryz.ntmps48
 go_wp2_with fail
 refine (uh H).mono ?_
 rintro e w1 ⟨ao, no, co, rfl, hI, hb⟩
 have HI := zh hI
 have HW := zh hb
 clear hI hb H
 by_cases h0 : n = 0
 ·rw [if_neg (by simp [h0])] at HZ
  have hE : ((n : Int) != 0) = false := by simp [h0]
  clear h0
  cases b with
  | false =>
   rw [if_pos rfl] at HZ
   go_wp2
   go_ret2
   exact ⟨by rw [uh HZ] <;> rfl, uh HW⟩
  | true =>
   rw [if_neg (by simp)] at HZ
   obtain ⟨hlo, ht9⟩ := uh HB rfl
   have hI := uh HI rfl
   have HT := zh ht9
   clear HB HI ht9
   go_wp2_with fail
   refine (digits_any _ o _ hI (uh HT) hlo).mono ?_
   rintro e w' ⟨rfl, rfl⟩
   clear hI
   go_wp2
   go_ret2
   exact ⟨by rw [uh HZ] <;> rfl, uh HW⟩
 ·rw [if_pos h0] at HZ
  have hE : ((n : Int) != 0) = true := by simp [h0]
  clear h0
  go_wp2
  go_ret2
  exact ⟨by rw [uh HZ] <;> rfl, uh HW⟩
theorem safe_true {l a : List UInt8} (h : safeOf l a = (true, 0)) : (errOf l).1 = 0 /\ (layOf l).stateB a = true := by
 unfold safeOf at h
 by_cases h1 : (errOf l).1 = 0
 ·rw [if_neg (by simp [h1])] at h
  cases hs : (layOf l).stateB a with
  | true => exact ⟨h1, rfl⟩
  | false => rw [hs, if_pos rfl] at h; cases h
 ·rw [if_pos h1] at h; cases h
end Go.Proofs.YtkbpocecbcaiiabGreatDoor
namespace Go.Proofs.YtkbpocecbcaiiabGreatDoor
theorem order_foll (L : Lay) : ∀ (f : Nat) (at_ : List Nat) (l : List St), RelS L at_ l -> (∀ i (h : i < l.length), l[i].done = true -> L.doneB at_ i = true) -> (z1r f l).2.all (·.done) = true -> L.Foll at_ (z1r f l).1 := by
 have hall : ∀ (at_ : List Nat) (l : List St), RelS L at_ l -> (∀ i (h : i < l.length), l[i].done = true -> L.doneB at_ i = true) -> l.all (·.done) = true -> L.allDone at_ = true := by
  intro at_ l hR hx h
  unfold Lay.allDone
  rw [List.all_eq_true]
  intro i hi
  have hi' : i < l.length := by rw [hR.1, <- hR.2.1]; exact List.mem_range.1 hi
  rw [List.all_eq_true] at h
  exact hx i hi' (h _ (List.getElem_mem hi'))
 intro f
 induction f with
 | zero => intro at_ l hR hx h; exact hall at_ l hR hx h
 | succ f ih =>
  intro at_ l hR hx h
  unfold z1r at h ⊢
  cases hf : z44 l with
  | none =>
   rw [hf] at h
   exact hall at_ l hR hx h
  | some k =>
   rw [hf] at h
   simp only at h ⊢
   obtain ⟨hk, hd, hm⟩ := z3c hf
   have hk' : k < at_.length := by rw [hR.2.1, <- hR.1]; exact hk
   refine ⟨hk', (hR.2.2 k hk hd).1, runs_of_may L at_ l hR hx k hk hd hm, ?_⟩
   refine ih (L.withN at_ k) (markD l k) ⟨by rw [z2k]; exact hR.1, by rw [z4i]; exact hR.2.1, fun i hi hdi => ?_⟩ (fun i hi hdi => ?_) h
   ·have hi' : i < l.length := by rw [z2k] at hi; exact hi
    rw [markD_get l k i hk hi'] at hdi ⊢
    by_cases hki : k = i
    ·rw [if_pos hki] at hdi; cases hdi
    ·rw [if_neg hki] at hdi ⊢
     obtain ⟨a1, a2, a3⟩ := hR.2.2 i hi' hdi
     have e : (L.withN at_ k).getD i 0 = at_.getD i 0 := by rw [z33, if_neg (by omega)]
     rw [e]
     exact ⟨by unfold Lay.doneB at a1 ⊢; rw [e]; exact a1, a2, a3⟩
   ·have hi' : i < l.length := by rw [z2k] at hi; exact hi
    rw [markD_get l k i hk hi'] at hdi
    by_cases hki : k = i
    ·subst hki; exact withN_done L at_ k hk'
    ·rw [if_neg hki] at hdi
     have := hx i hi' hdi
     have e : (L.withN at_ k).getD i 0 = at_.getD i 0 := by rw [z33, if_neg (by omega)]
     unfold Lay.doneB at this ⊢; rw [e]; exact this
theorem foll_lt (L : Lay) : ∀ (o at_ : List Nat), L.Foll at_ o -> ∀ t, t ∈ o -> t < at_.length
 | [], _, _, t, h => by cases h
 | x :: o, at_, h, t, ht => by
  rcases List.mem_cons.1 ht with e | e
  ·rw [e]; exact h.1
  ·have := foll_lt L o _ h.2.2.2 t e
   rw [z4i] at this; exact this
theorem order_len : ∀ (f : Nat) (l : List St), (z1r f l).1.length <= f
 | 0, _ => Nat.le_refl _
 | f + 1, l => by
  unfold z1r
  cases z44 l with
  | none => exact Nat.zero_le _
  | some k => simpa using order_len f (markD l k)
theorem z5i (L : Lay) (at_ : List Nat) (hl : at_.length = L.tns.length) (h : (z1r L.tns.length (L.stsAt at_)).2.all (·.done) = true) : L.Foll at_ (z1r L.tns.length (L.stsAt at_)).1 := by
 obtain ⟨hR, hx⟩ := sts_rel L at_ hl
 exact order_foll L _ at_ _ hR hx h
end Go.Proofs.YtkbpocecbcaiiabGreatDoor
namespace Go.Proofs.YtkbpocecbcaiiabGreatDoor
open Go.RowKit
theorem trains_small (s a : ByteArray) (h1 : (ordOf s a).1 = true) : (z22 s a).length <= 1000 /\ ∀ t, t ∈ z22 s a -> t < 9 := by
 have hA := ord_eq s a
 have h0 : (ordOf s a).2 = 0 := by
  unfold ordOf at h1 ⊢
  split at h1
  ·cases h1
  ·rename_i g1
   rw [if_neg g1]
   split at h1
   ·cases h1
   ·rename_i g2
    rw [if_neg g2]
 have hE : ordOf s a = (true, 0) := Prod.ext h1 h0
 rw [hA] at hE
 obtain ⟨e0, e1⟩ := safe_true hE
 obtain ⟨b1, b2, b3, -⟩ := err0 _ e0
 have hs : s.size <= 256 := by simpa using b1
 rcases form_eq s hs with ⟨f1, f2, f3, -⟩ | ⟨f1, f2, f3⟩
 ·rw [f3] at e1 b3
  have hl := stateB_len e1
  have hok : (layL s).2.2.okL (digs a.data.toList) = true := by
   have hx : ordOf s a = (true, 0) := Prod.ext h1 h0
   unfold ordOf at hx
   rw [(load_eq s).1, if_neg (by simp [e0]), if_neg (by simp [e1])] at hx
   exact (Prod.mk.inj hx).1
  have hfo := z5i _ _ hl hok
  have h5 : (layL s).2.2.tns.length <= 5 := by
   unfold Lay.big at b3
   simp only [Bool.or_eq_false_iff, decide_eq_false_iff_not] at b3
   omega
  have hle := order_len (layL s).2.2.tns.length ((layL s).2.2.stsAt (digs a.data.toList))
  refine ⟨by unfold z22; omega, fun t ht => ?_⟩
  have := foll_lt _ _ _ hfo t ht
  omega
 ·exact absurd b2 f2
theorem digs_at {C : RBx} (hi : Inv C) : digs (atS C).data.toList = C.sta := by
 unfold atS z0g RBx.stateT digs
 rw [List.toList_toArray, List.map_map, List.map_map]
 have e : ∀ x, x ∈ C.sta -> (((fun c : UInt8 => c.toNat - 48) ∘ UInt8.ofNat) ∘ fun x => 48 + x) x = x := by
  intro x hx
  have := hi.sta8 x hx
  show (UInt8.ofNat (48 + x)).toNat - 48 = x
  rw [UInt8.toNat_ofNat']
  omega
 rw [List.map_congr_left e]
 exact List.map_id' _
theorem state_at {C : RBx} (hi : Inv C) : C.L.stateB (atS C).data.toList = true := by
 have hl : (atS C).data.toList.length = C.L.tns.length := by
  have h1 : (atS C).data.toList.length = (atS C).size := by simp
  rw [h1]; unfold atS; rw [z0q]; unfold RBx.stateT; rw [List.length_map]; exact hi.st
 unfold Lay.stateB
 rw [Bool.and_eq_true, beq_iff_eq]
 refine ⟨hl, ?_⟩
 rw [List.all_eq_true]
 intro t ht
 have ht' : t < C.L.tns.length := by rw [<- hl]; exact List.mem_range.1 ht
 have h1 : ((atS C).data.toList.getD t 0).toNat = 48 + C.sta.getD t 0 := at_pk hi ht'
 unfold okD
 rw [h1]
 have := hi.sj t
 simp only [Bool.and_eq_true, decide_eq_true_eq]
 omega
theorem grantN_sound (C : RBx) (f : Fr) : ∀ k, ((C.grantN f k).sta = C.sta /\ C.servN f k = []) \/ C.L.sound (C.grantN f k).sta = true
 | 0 => .inl ⟨rfl, rfl⟩
 | k + 1 => by
  have ih := grantN_sound C f k
  have hL := grantN_L C f k
  show (((C.grantN f k).grant f (C.waits.getD k 0)).sta = C.sta /\ (if _ then _ else _ : List Nat) = []) \/ C.L.sound ((C.grantN f k).grant f (C.waits.getD k 0)).sta = true
  by_cases hb : (C.grantN f k).grantB f (C.waits.getD k 0) = true
  ·right
   rw [z5f hb, <- hL]
   unfold RBx.grantB at hb
   simp only [Bool.and_eq_true] at hb
   exact hb.2
  ·have e : (C.grantN f k).grant f (C.waits.getD k 0) = C.grantN f k := by unfold RBx.grant; rw [if_neg hb]
   rw [e, if_neg hb]
   exact ih
theorem list_ext0 {a b : List Nat} (hl : a.length = b.length) (h : ∀ t, t < b.length -> a.getD t 0 = b.getD t 0) : a = b := by
 apply List.ext_getElem hl
 intro i h1 h2
 have := h i h2
 rw [z06 h1, z06 h2] at this
 exact this
theorem sure_facts {C : RBx} {s : ByteArray} (S : Stgs C (C.L.frOf s)) (hi : Inv C)
  (h : (grS C s).size ≠ 0 \/ (C.L.sound C.sta = true /\ ∀ t, t < C.L.tns.length -> pk (atS C) t + cntG (grS C s) t <= pk (atS (C.s4 (C.L.frOf s))) t)) : C.L.sound (C.s4 (C.L.frOf s)).sta = true := by
 have hgs : (grS C s).size = ((C.s3 (C.L.frOf s)).servN (C.L.frOf s) (C.s3 (C.L.frOf s)).waits.length).length := by
  unfold grS; rw [z0q, List.length_map]
 have h4 : (C.s4 (C.L.frOf s)).sta = ((C.s3 (C.L.frOf s)).grantN (C.L.frOf s) (C.s3 (C.L.frOf s)).waits.length).sta := rfl
 rcases grantN_sound (C.s3 (C.L.frOf s)) (C.L.frOf s) (C.s3 (C.L.frOf s)).waits.length with ⟨a, b⟩ | a
 ·rcases h with h | ⟨h1, h2⟩
  ·rw [hgs, b] at h; exact absurd rfl h
  ·have e : (C.s4 (C.L.frOf s)).sta = C.sta := by
    rw [h4, a]
    have h3 : (C.s3 (C.L.frOf s)).sta = (C.s2 (C.L.frOf s)).sta := (z38 (C.s2 (C.L.frOf s)) (C.L.frOf s) _).2.2.2
    apply list_ext0
    ·rw [S.i3.st, S.l3, hi.st]
    ·intro t ht
     rw [hi.st] at ht
     have e0 := at_pk hi ht
     have e4 := at_pk S.i4 (t := t) (by rw [S.l4]; exact ht)
     have hc : cntG (grS C s) t = 0 := by rw [gr_cnt S t, b]; rfl
     have := h2 t ht
     rw [h4, a] at e4
     have h1s : (C.s1 (C.L.frOf s)).sta = C.sta := (z0w C (C.L.frOf s) C.L.sw.length).2.2.2.1
     have h1l : ∀ r, (C.s1 (C.L.frOf s)).line r = C.line r := fun r => by unfold RBx.line; exact congrArg (fun l => l.getD r RLn0) (z0w C (C.L.frOf s) C.L.sw.length).2.2.1
     have hs := stepN_sta S.i1 (C.L.frOf s) t C.L.rts.length (by rw [S.l1]; exact Nat.le_refl _)
     rw [<- S.n2, h1s, <- h3] at hs
     rcases hs with hs | ⟨r, hr, p, q, u⟩
     ·exact hs
     ·omega
   rw [e]; exact h1
 ·rw [S.l3] at a
  rw [h4]; exact a
def z34 (L : Lay) (at_ : List Nat) (n : Nat) : Nat := ((List.range n).filter (fun t => !L.doneB at_ t)).length
theorem undone_withN (L : Lay) (at_ : List Nat) (t : Nat) (ht : t < at_.length) (hd : L.doneB at_ t = false) : ∀ n, z34 L at_ n = z34 L (L.withN at_ t) n + (if t < n then 1 else 0)
 | 0 => rfl
 | n + 1 => by
  have ih := undone_withN L at_ t ht hd n
  unfold z34 at ih ⊢
  rw [List.range_succ, List.filter_append, List.filter_append, List.length_append, List.length_append, ih]
  by_cases e : n = t
  ·subst e
   have h1 := withN_done L at_ n ht
   simp [hd, h1]
  ·have h1 : L.doneB (L.withN at_ t) n = L.doneB at_ n := by
    unfold Lay.doneB
    rw [z33, if_neg (fun h => e h.1)]
   rw [show [n].filter (fun k => !L.doneB (L.withN at_ t) k) = [n].filter (fun k => !L.doneB at_ k) by simp [List.filter_cons, h1]]
   by_cases h2 : t < n
   ·rw [if_pos h2, if_pos (by omega)]; omega
   ·rw [if_neg h2, if_neg (by omega)]; omega
theorem foll_undone (L : Lay) : ∀ (o at_ : List Nat), L.Foll at_ o -> o.length = z34 L at_ at_.length
 | [], at_, h => by
  unfold Lay.Foll Lay.allDone at h
  unfold z34
  have e : (List.range at_.length).filter (fun t => !L.doneB at_ t) = [] := List.filter_eq_nil_iff.2 (fun t ht => by
   have := List.all_eq_true.1 h t ht
   simp [this])
  rw [e]
 | t :: o, at_, h => by
  obtain ⟨h1, h2, -, h4⟩ := h
  have ih := foll_undone L o (L.withN at_ t) h4
  rw [z4i] at ih
  have := undone_withN L at_ t h1 h2 at_.length
  rw [if_pos h1] at this
  rw [List.length_cons]
  omega
def atN (L : Lay) (at_ : List Nat) (o : List Nat) : Nat -> List Nat
 | 0 => at_
 | i + 1 => L.withN (atN L at_ o i) (o.getD i 0)
theorem atN_len (L : Lay) (at_ : List Nat) (o : List Nat) : ∀ i, (atN L at_ o i).length = at_.length
 | 0 => rfl
 | i + 1 => (z4i _ _ _).trans (atN_len L at_ o i)
theorem atN_foll (L : Lay) (at_ : List Nat) (o : List Nat) (h : L.Foll at_ o) : ∀ i, i <= o.length -> L.Foll (atN L at_ o i) (o.drop i)
 | 0, _ => h
 | i + 1, hi => by
  have ih := atN_foll L at_ o h i (by omega)
  rw [List.drop_eq_getElem_cons (by omega)] at ih
  have e : o.getD i 0 = o[i] := z06 (by omega)
  show L.Foll (L.withN (atN L at_ o i) (o.getD i 0)) _
  rw [e]
  exact ih.2.2.2
theorem atN_now (L : Lay) (at_ : List Nat) (o : List Nat) (h : L.Foll at_ o) {i : Nat} (hi : i < o.length) :
  o.getD i 0 < at_.length /\ (atN L at_ o i).getD (o.getD i 0) 0 < (L.tn (o.getD i 0)).jny.length /\ L.runsB (atN L at_ o i) (o.getD i 0) = true := by
 have ih := atN_foll L at_ o h i (by omega)
 rw [List.drop_eq_getElem_cons hi] at ih
 rw [z06 hi]
 obtain ⟨h1, h2, h3, -⟩ := ih
 rw [atN_len] at h1
 refine ⟨h1, ?_, h3⟩
 unfold Lay.doneB at h2
 simpa using h2
theorem atN_le (L : Lay) (at_ : List Nat) (o : List Nat) (h : ∀ t, at_.getD t 0 <= (L.tn t).jny.length) : ∀ i t, (atN L at_ o i).getD t 0 <= (L.tn t).jny.length
 | 0, t => h t
 | i + 1, t => by
  show (L.withN (atN L at_ o i) (o.getD i 0)).getD t 0 <= _
  rw [z33]
  split
  ·rename_i hh; rw [hh.1]; exact Nat.le_refl _
  ·exact atN_le L at_ o h i t
def holdI (L : Lay) (al : List Nat) (t : Nat) : Int := match L.holds al t with
 | some x => x
 | none => -1
structure LayK (L : Lay) : Prop where
 tn : L.tns.length <= 100
 rt : L.rts.length <= 100
 jl : ∀ t, t < L.tns.length -> (L.tn t).jny.length <= 1000
 jr : ∀ t, t < L.tns.length -> ∀ q, q ∈ (L.tn t).jny -> q < L.rts.length
 pn : ∀ r, r < L.rts.length -> 0 < (secs (L.rt r).path).length /\ (secs (L.rt r).path).length <= 1000
theorem lastN_secs (p : List (Nat × Nat)) (h : 0 < (secs p).length) : (secs p)[(secs p).length - 1] = lastN p := by
 unfold lastN
 have hl : (secs p).length = p.length := z1d p
 unfold secs at h ⊢
 simp only [List.getElem_map, List.length_map]
 rw [List.length_map] at h
 first
  | (rw [List.getLastD_eq_getLast?, List.getLast?_eq_getElem?, List.getElem?_eq_getElem (by omega)]; rfl)
  | (rw [List.getLast?_eq_getElem?, List.getElem?_eq_getElem (by omega)]; rfl)
  | (rw [List.getD_eq_getElem?_getD, List.getElem?_eq_getElem (by omega)]; rfl)
theorem stand_at {L : Lay} {t : Nat} (ht : t < L.tns.length) : (L.tns.map (·.start))[t]'(by simpa using ht) = (L.tn t).start := by
 rw [List.getElem_map]
 unfold Lay.tn
 rw [z06 ht]
set_option maxRecDepth 100000 in
set_option maxHeartbeats 8000000 in
theorem kholds_any (g : Nat) (L : Lay) (t : Nat) (al : List Nat) (v : Value) (w : World) (h : KPl w g L) (hL : LayK L) (hv : Ints w v al) (hl : al.length = L.tns.length) (ht : t < L.tns.length) (hle : al.getD t 0 <= (L.tn t).jny.length) :
  Calls Tryz.prog 124 #[.pointer (some ⟨g, 0, none⟩), v, .int .i64 t] w fun e w' => e = .returned (.int .i64 (holdI L al t)) /\ ∃ m, w' = w.drewN m := by
 obtain ⟨htn, hrt, hjl, hjr, hpn⟩ := hL
 have hjl := hjl t ht
 have hjr := hjr t ht
 obtain ⟨av, cv, rfl, hmv, hrv⟩ := z3i hv
 obtain ⟨gv, ov, rfl, hgv, xv⟩ := hrv t (by omega)
 have hta : t < al.length := by omega
 obtain ⟨a, haa⟩ : ∃ a, a = al[t] := ⟨_, rfl⟩
 have ha : al.getD t 0 = a := by rw [z06 hta, haa]
 rw [<- haa] at xv
 obtain ⟨Z, hZ⟩ : ∃ Z, Z = holdI L al t := ⟨_, rfl⟩
 rw [<- hZ]
 unfold holdI Lay.holds Lay.doneB at hZ
 rw [ha] at hZ hle
 obtain ⟨vh, vp, vf, va, vk, vw, vs, vj, e, -, -, -, a4, -, -, a7, a8⟩ := h
 obtain ⟨⟨-, -, -, -, -, -, c6, -, -, c9, c10⟩, hg⟩ := z0n e
 obtain ⟨gj, oj, cj, ar, cr, ev, hgj, xr, hui⟩ := z3h a8 t (by simpa using ht)
 subst ev
 rw [tns_jny ht] at xr hui
 rw [List.length_map] at c10
 obtain ⟨ar', cr', hvv, hmr, hrow⟩ := z3i hui
 simp only [Value.slice.injEq] at hvv
 obtain ⟨rfl, -, rfl⟩ := hvv
 obtain ⟨jl, hjle⟩ : ∃ n, n = (L.tn t).jny.length := ⟨_, rfl⟩
 rw [<- hjle] at xr hZ hle hjl
 obtain ⟨nt, hnt⟩ : ∃ n, n = L.tns.length := ⟨_, rfl⟩
 rw [hl, <- hnt]
 rw [<- hnt] at c10 htn
 have l1 : (t : Int) < nt := by omega
 have l0 : (0 : Int) <= t := by omega
 have b1 : a <= 1000 := by omega
 clear haa ha
 by_cases h1 : jl <= a
 ·rw [if_pos (by simpa using h1)] at hZ
  simp only at hZ
  have d1 : (jl : Int) <= a := by omega
  have d2 : decide (jl <= a) = true := by simpa using h1
  clear hrow hui hrv e a4 a7 a8 hv hjle hnt
  subst hZ
  go_enter Tryz.func124, Tryz.ntmps124
  go_wp2
  go_quiet (fail)
  go_wp2
  go_ret
  exact ⟨rfl, _, rfl⟩
 rw [if_neg (by simpa using h1)] at hZ
 have d1 : ¬ (jl : Int) <= a := by omega
 have d2 : decide (jl <= a) = false := by simpa using h1
 by_cases h2 : a = 0
 ·rw [if_pos h2] at hZ
  simp only at hZ
  obtain ⟨as_, cs, hvs, -, hrs⟩ := z3i a7
  obtain ⟨gs, os, rfl, hgs, xs⟩ := hrs t (by simpa using ht)
  rw [stand_at ht, <- hZ] at xs
  rw [List.length_map, <- hnt] at hvs
  subst hvs
  subst h2
  clear hrow hui hrv hrs e a4 a7 a8 hv hZ hjle hnt hl
  go_enter Tryz.func124, Tryz.ntmps124
  go_wp2
  go_quiet (fail)
  go_wp2
  go_ret
  exact ⟨rfl, _, rfl⟩
 rw [if_neg h2] at hZ
 simp only at hZ
 obtain ⟨n1, hn1⟩ : ∃ n, n = a - 1 := ⟨_, rfl⟩
 rw [<- hn1] at hZ
 have hn1l : n1 < (L.tn t).jny.length := by omega
 obtain ⟨gq, oq, rfl, hgq, xq⟩ := hrow n1 hn1l
 rw [z06 hn1l] at hZ
 have hrr := hjr _ (List.getElem_mem hn1l)
 obtain ⟨r, hre⟩ : ∃ r, r = (L.tn t).jny[n1] := ⟨_, rfl⟩
 rw [<- hre] at xq hZ hrr
 obtain ⟨hp0, hp1⟩ := hpn r hrr
 obtain ⟨ga, oa, ca, ar2, cr2, ev, hga, xr2, hui2⟩ := z3h a4 r (by simpa using hrr)
 subst ev
 rw [rts_path hrr] at xr2 hui2
 rw [List.length_map] at c6
 obtain ⟨ar3, cr3, hv3, hm3, hrow3⟩ := z3i hui2
 simp only [Value.slice.injEq] at hv3
 obtain ⟨rfl, -, rfl⟩ := hv3
 obtain ⟨gy, oy, rfl, hgy, xy⟩ := hrow3 ((secs (L.rt r).path).length - 1) (by omega)
 rw [lastN_secs _ hp0] at xy
 unfold Lay.endOf at hZ
 rw [<- hZ] at xy
 obtain ⟨pl, hpl⟩ : ∃ n, n = (secs (L.rt r).path).length := ⟨_, rfl⟩
 rw [<- hpl] at xr2 xy hp0 hp1
 obtain ⟨nr, hnr⟩ : ∃ n, n = L.rts.length := ⟨_, rfl⟩
 rw [<- hnr] at c6 hrr hrt
 obtain ⟨p1, hpp⟩ : ∃ n, n = pl - 1 := ⟨_, rfl⟩
 rw [<- hpp] at xy
 have e1 : (a : Int) - 1 = n1 := by omega
 have e2 : (pl : Int) - 1 = p1 := by omega
 have b2 : n1 <= 1000 := by omega
 have b3 : p1 <= 1000 := by omega
 have l2 : (n1 : Int) < jl := by omega
 have l3 : (r : Int) < nr := by omega
 have l4 : (p1 : Int) < pl := by omega
 have l5 : (0 : Int) <= n1 := by omega
 have l6 : (0 : Int) <= r := by omega
 have l7 : (0 : Int) <= p1 := by omega
 have f1 : ((a : Int) == 0) = false := by simp; omega
 clear hrow hui hrv e a4 a7 a8 hv hZ hrow3 hui2 hre hn1 hpp hpl hnr hnt hjle
 go_enter Tryz.func124, Tryz.ntmps124
 go_wp2
 go_quiet (fail)
 go_wp2
 go_quiet (fail)
 go_wp2
 go_ret
 exact ⟨rfl, _, rfl⟩
theorem within_hold {L : Lay} {al : List Nat} {o : Nat} {p : List Nat} : z2h p (holdI L al o) = hits p (L.holds al o) := by
 unfold holdI hits z2h
 cases L.holds al o with
 | none => simp only; rw [List.any_eq_false]; intro x _; simp
 | some x =>
  simp only
  apply Bool.eq_iff_iff.2
  rw [List.any_eq_true, List.contains_iff_mem]
  constructor
  ·rintro ⟨y, hy, e⟩
   have : y = x := by have := beq_iff_eq.1 e; omega
   rw [<- this]; exact hy
  ·intro hx
   exact ⟨x, hx, by simp⟩
set_option maxRecDepth 100000 in
set_option maxHeartbeats 8000000 in
theorem kblocked_no (g : Nat) (L : Lay) (t : Nat) (al : List Nat) (v : Value) (w : World) (h : KPl w g L) (hL : LayK L) (hv : Ints w v al) (hl : al.length = L.tns.length) (ht : t < L.tns.length) (hle : ∀ o, al.getD o 0 <= (L.tn o).jny.length) (hrun : L.runsB al t = true) :
  Calls Tryz.prog 86 #[.pointer (some ⟨g, 0, none⟩), v, .int .i64 t] w fun e w' => e = .returned (.bool false) /\ ∃ m, w' = w.drewN m := by
 have HH := zh (fun (o n : Nat) (ho : o < L.tns.length) => kholds_any g L o al v (w.drewN n) (h.below (below_drewN (Below.refl _ _) n)) hL (hv.below (below_drewN (Below.refl _ _) n)) hl ho (hle o))
 obtain ⟨htn, hrt, hjl, hjr, hpn⟩ := hL
 have hjl := hjl t ht
 have hjr := hjr t ht
 obtain ⟨av, cv, rfl, hmv, hrv⟩ := z3i hv
 obtain ⟨gv, ov, rfl, hgv, xv⟩ := hrv t (by omega)
 have hta : t < al.length := by omega
 obtain ⟨a, haa⟩ : ∃ a, a = al[t] := ⟨_, rfl⟩
 have ha : al.getD t 0 = a := by rw [z06 hta, haa]
 rw [<- haa] at xv
 have hle := hle t
 rw [ha] at hle
 unfold Lay.runsB at hrun
 rw [ha, List.all_eq_true] at hrun
 obtain ⟨vh, vp, vf, va, vk, vw, vs, vj, e, -, -, -, a4, -, -, -, a8⟩ := h
 obtain ⟨⟨-, -, -, -, -, -, c6, -, -, -, c10⟩, hg⟩ := z0n e
 obtain ⟨gj, oj, cj, ar, cr, ev, hgj, xr, hui⟩ := z3h a8 t (by simpa using ht)
 subst ev
 rw [tns_jny ht] at xr hui
 rw [List.length_map] at c10
 obtain ⟨ar', cr', hvv, hmr, hrow⟩ := z3i hui
 simp only [Value.slice.injEq] at hvv
 obtain ⟨rfl, -, rfl⟩ := hvv
 obtain ⟨aa, ca, eva, -⟩ := SlAt.open a4
 subst eva
 rw [List.length_map] at c6
 have HA4 := zh (fun (r : Nat) (hr : r < L.rts.length) => z3h a4 r (by simpa using hr))
 have HJR := zh (And.intro hrow (And.intro hjr hrun))
 obtain ⟨jl, hjle⟩ : ∃ n, n = (L.tn t).jny.length := ⟨_, rfl⟩
 have HJL := zh hjle
 rw [<- hjle] at xr hle hjl
 obtain ⟨nt, hnt⟩ : ∃ n, n = L.tns.length := ⟨_, rfl⟩
 have HNT := zh (And.intro hnt hl)
 rw [hl, <- hnt] at HH ⊢
 rw [<- hnt] at c10 htn
 obtain ⟨nr, hnr⟩ : ∃ n, n = L.rts.length := ⟨_, rfl⟩
 have HNR := zh hnr
 rw [<- hnr] at c6 hrt
 have l1 : (t : Int) < nt := by omega
 have l0 : (0 : Int) <= t := by omega
 clear hrow hui hrv e a4 a8 hv hjle hnt hnr hrun hjr hpn haa ha hl
 go_enter Tryz.func86, Tryz.ntmps86
 go_wp2
 go_loopw [7] (fun i wr => ∃ k mm : Nat, a <= k /\ k <= jl /\ i = .int .i64 k /\ wr = w.drewN mm) (fun i _ => jl - (intOf i).toNat)
 case atStart => exact ⟨a, 0, Nat.le_refl _, hle, rfl, rfl⟩
 case round =>
  obtain ⟨k, mm, hak, hk, rfl, hwr⟩ := hrel
  have HWR := zh hwr
  have n6 : wr.cell? ⟨g, 6, none⟩ = some (.slice aa nr ca) := by rw [hwr]; exact c6
  have n10 : wr.cell? ⟨g, 10, none⟩ = some (.slice (some ⟨gj, oj, none⟩) nt cj) := by rw [hwr]; exact c10
  have nxr : wr.cell? ⟨gj, oj + t, none⟩ = some (.slice ar jl cr) := by rw [hwr]; exact xr
  have ng : g < wr.heap.size := by rw [hwr]; exact hg
  have ngj : gj < wr.heap.size := by rw [hwr]; exact hgj
  by_cases hlt : k < jl
  ·have k1 : (k : Int) < jl := by omega
   clear hwr
   go_wp2
   go_loopw [8] (fun i wq => ∃ o mj : Nat, o <= nt /\ i = .int .i64 o /\ wq = w.drewN mj) (fun i _ => nt - (intOf i).toNat)
   case atStart => exact ⟨0, mm, Nat.zero_le _, rfl, uh HWR⟩
   case round =>
    clear HWR n6 n10 nxr ng ngj
    obtain ⟨o, mj, ho, rfl, hwq⟩ := hrel
    have HWQ := zh hwq
    by_cases hot : o < nt
    ·have n6 : wr.cell? ⟨g, 6, none⟩ = some (.slice aa nr ca) := by rw [hwq]; exact c6
     have n10 : wr.cell? ⟨g, 10, none⟩ = some (.slice (some ⟨gj, oj, none⟩) nt cj) := by rw [hwq]; exact c10
     have nxr : wr.cell? ⟨gj, oj + t, none⟩ = some (.slice ar jl cr) := by rw [hwq]; exact xr
     have ng : g < wr.heap.size := by rw [hwq]; exact hg
     have ngj : gj < wr.heap.size := by rw [hwq]; exact hgj
     obtain ⟨hnt, hl⟩ := uh HNT
     have HH1 := zh (uh HH o mj (by omega))
     rw [<- hwq] at HH1
     obtain ⟨hrow, hjr, hrun⟩ := uh HJR
     have hjl' := uh HJL
     obtain ⟨gq, oq, rfl, hgq, xq⟩ := hrow k (by omega)
     have hrr := hjr _ (List.getElem_mem (show k < (L.tn t).jny.length by omega))
     have hrn := hrun _ (show (L.tn t).jny[k]'(by omega) ∈ (L.tn t).jny.drop a from by
      rw [List.mem_drop_iff_getElem]
      exact ⟨k - a, by omega, by congr 1; omega⟩)
     obtain ⟨r, hre⟩ : ∃ r, r = (L.tn t).jny[k]'(by omega) := ⟨_, rfl⟩
     rw [<- hre] at xq hrr hrn
     rw [List.all_eq_true] at hrn
     have hrn := hrn o (List.mem_range.2 (by omega))
     rw [<- within_hold] at hrn
     obtain ⟨ga, oa, ca', ar2, cr2, ev, hga, xr2, hui2⟩ := uh HA4 r hrr
     simp only [Value.slice.injEq] at ev
     obtain ⟨rfl, -, rfl⟩ := ev
     rw [rts_path hrr] at xr2 hui2
     obtain ⟨pl, hpl⟩ : ∃ n, n = (secs (L.rt r).path).length := ⟨_, rfl⟩
     have HWI := zh (fun (wz : World) (hz : ∃ n, wz = w.drewN n) => within_any _ (secs (L.rt r).path) (holdI L al o) wz (by obtain ⟨n, rfl⟩ := hz; exact hui2.below (below_drewN (Below.refl _ _) n)))
     rw [<- hpl] at xr2 HWI
     obtain ⟨bw, hbw⟩ : ∃ b, b = z2h (secs (L.rt r).path) (holdI L al o) := ⟨_, rfl⟩
     rw [<- hbw] at hrn HWI
     obtain ⟨hI, hhI⟩ : ∃ x, x = holdI L al o := ⟨_, rfl⟩
     rw [<- hhI] at HWI HH1
     have nxq : wr.cell? ⟨gq, oq + k, none⟩ = some (.int .i64 (r : Nat)) := by rw [hwq]; exact xq
     have nx2 : wr.cell? ⟨ga, oa + r, none⟩ = some (.slice ar2 pl cr2) := by rw [hwq]; exact xr2
     have ngq : gq < wr.heap.size := by rw [hwq]; exact hgq
     have nga : ga < wr.heap.size := by rw [hwq]; exact hga
     have hrr' : r < nr := by have := uh HNR; omega
     have k2 : (o : Int) < nt := by omega
     have k3 : (0 : Int) <= k := by omega
     have k4 : (r : Int) < nr := by omega
     have k5 : (0 : Int) <= r := by omega
     have k6 : o <= 100 := by omega
     have HNQ := zh (fun (n : Nat) => (show ∃ n', (wr.drewN n) = w.drewN n' by rw [hwq]; exact ⟨_, z20 _ _ _⟩))
     clear hwq hrow hjr hrun hui2 hbw hhI hpl hre xq xr2 hnt hl hjl' hrr
     have HB := zh hrn
     clear hrn
     go_wp2_with fail
     refine (uh HH1).mono ?_
     rintro e w2 ⟨rfl, m2, hw2⟩
     have HW2 := zh hw2
     have o6 : w2.cell? ⟨g, 6, none⟩ = some (.slice (some ⟨ga, oa, none⟩) nr ca) := by rw [hw2]; exact n6
     have o10 : w2.cell? ⟨g, 10, none⟩ = some (.slice (some ⟨gj, oj, none⟩) nt cj) := by rw [hw2]; exact n10
     have oxr : w2.cell? ⟨gj, oj + t, none⟩ = some (.slice (some ⟨gq, oq, none⟩) jl cr) := by rw [hw2]; exact nxr
     have oxq : w2.cell? ⟨gq, oq + k, none⟩ = some (.int .i64 (r : Nat)) := by rw [hw2]; exact nxq
     have ox2 : w2.cell? ⟨ga, oa + r, none⟩ = some (.slice ar2 pl cr2) := by rw [hw2]; exact nx2
     have og : g < w2.heap.size := by rw [hw2]; exact ng
     have ogj : gj < w2.heap.size := by rw [hw2]; exact ngj
     have ogq : gq < w2.heap.size := by rw [hw2]; exact ngq
     have oga : ga < w2.heap.size := by rw [hw2]; exact nga
     have HC := zh (fun (n : Nat) => uh HWI (w2.drewN n) (by obtain ⟨n', e⟩ := uh HNQ (m2 + n); exact ⟨n', by rw [hw2, z20]; exact e⟩))
     clear hw2 HH1 HWI n6 n10 nxr nxq nx2 ng ngj ngq nga
     go_wp2
     go_quiet ((go_at_call 87; exact Calls.quiet_of_same (uh HC _)))
     have HFIN := zh (fun (n : Nat) => show ∃ n', w2.drewN n = w.drewN n' by obtain ⟨n', e⟩ := uh HNQ (m2 + n); exact ⟨n', by rw [uh HW2, z20]; exact e⟩)
     by_cases eot : o = t
     ·subst eot
      cases bw with
      | true =>
       go_wp2
       obtain ⟨n', e⟩ := uh HFIN nq
       exact ⟨⟨o + 1, n', by omega, by go_num, e⟩, by simp [intOf]; omega⟩
      | false =>
       go_wp2
       obtain ⟨n', e⟩ := uh HFIN nq
       exact ⟨⟨o + 1, n', by omega, by go_num, e⟩, by simp [intOf]; omega⟩
     ·have hb := uh HB
      have : bw = false := by
       rw [Bool.or_eq_true, beq_iff_eq, Bool.not_eq_true'] at hb
       rcases hb with hb | hb
       ·exact absurd hb eot
       ·exact hb
      subst this
      clear hb HB
      go_wp2
      obtain ⟨n', e⟩ := uh HFIN nq
      exact ⟨⟨o + 1, n', by omega, by go_num, e⟩, by simp [intOf]; omega⟩
    ·have k2 : ¬ (o : Int) < nt := by omega
     clear hwq
     go_wp2
     exact ⟨⟨k + 1, mj, by omega, by omega, by go_num, uh HWQ⟩, by simp [intOf]; omega⟩
  ·have k1 : ¬ (k : Int) < jl := by omega
   clear hwr
   go_wp2
   go_ret
   exact ⟨rfl, mm, uh HWR⟩
theorem undone_succ (L : Lay) (al : List Nat) (k : Nat) : z34 L al (k + 1) = z34 L al k + (if L.doneB al k = true then 0 else 1) := by
 unfold z34
 rw [List.range_succ, List.filter_append, List.length_append]
 congr 1
 by_cases e : L.doneB al k = true
 ·simp [e]
 ·simp [e]
theorem undone_lek (L : Lay) (al : List Nat) (k : Nat) : z34 L al k <= k := by
 unfold z34
 have := List.length_filter_le (fun t => !L.doneB al t) (List.range k)
 simpa using this
def fillN (al : List Nat) (k : Nat) : List Nat := al.take k ++ List.replicate (al.length - k) 0
theorem fillN_len (al : List Nat) {k : Nat} (h : k <= al.length) : (fillN al k).length = al.length := by
 unfold fillN
 rw [List.length_append, List.length_take, List.length_replicate]
 omega
theorem fillN_set (al : List Nat) {k : Nat} (h : k < al.length) : (fillN al k).set k al[k] = fillN al (k + 1) := by
 unfold fillN
 have h1 : (al.take k).length = k := by rw [List.length_take]; omega
 rw [List.set_append_right _ _ (by omega), h1, Nat.sub_self, List.take_succ_eq_append_getElem h, List.append_assoc]
 congr 1
 have : al.length - k = (al.length - (k + 1)) + 1 := by omega
 rw [this, List.replicate_succ]
 rfl
theorem fillN_end (al : List Nat) : fillN al al.length = al := by
 unfold fillN
 simp
theorem only_below {n : Nat} {w w' : World} {gv j : Nat} {u : Value} (h : Below n w w') (hg : n <= gv) : Below n w (w'.setCell ⟨gv, j, none⟩ u) := h.setCell (p := ⟨gv, j, none⟩) hg u
set_option maxRecDepth 100000 in
set_option maxHeartbeats 16000000 in
theorem kcomes_yes (g : Nat) (L : Lay) (st : ByteArray) (al o : List Nat) (w : World) (h : KPl w g L) (hL : LayK L) (hl : al.length = L.tns.length) (hle : ∀ t, al.getD t 0 <= (L.tn t).jny.length) (hs : st.size = L.tns.length) (hst : ∀ t, t < L.tns.length -> pk st t = 48 + al.getD t 0)
  (ho : L.Foll al o) (ho9 : ∀ t, t ∈ o -> t < 9) (hol : o.length <= 1000) :
  Calls Tryz.prog 49 #[.pointer (some ⟨g, 0, none⟩), .string st, .string (z21 o)] w fun e w' => e = .returned (.bool true) /\ Below w.heap.size w w' := by
 have htn := hL.tn
 have HKP := zh (fun (wz : World) (hz : Below w.heap.size w wz) => h.below hz)
 have HBL := zh (fun (t : Nat) (an : List Nat) (v : Value) (wz : World) (hz : Below w.heap.size w wz) (hv : Ints wz v an) (ha : an.length = L.tns.length) (ht : t < L.tns.length) (hx : ∀ o, an.getD o 0 <= (L.tn o).jny.length) (hr : L.runsB an t = true) => kblocked_no g L t an v wz (h.below hz) hL hv ha ht hx hr)
 have HJL := zh hL.jl
 have HFO := zh ho
 have hund := foll_undone L o al ho
 rw [hl] at hund
 have HLE := zh hle
 have HST := zh hst
 obtain ⟨nt, hnt⟩ : ∃ n, n = L.tns.length := ⟨_, rfl⟩
 rw [<- hnt] at hs hl htn hund
 have HNT := zh hnt
 have H9 := zh ho9
 have hos : (z21 o).size = o.length := z2l o
 have HOG := zh (show ∀ (k : Nat) (hk : k < (z21 o).size), ((z21 o)[k]'hk).toNat = 49 + o.getD k 0 from fun k hk => by rw [ordStr_get o k hk ho9, z06 (by rw [z2l] at hk; exact hk)])
 obtain ⟨os, hose⟩ : ∃ os, os = z21 o := ⟨_, rfl⟩
 rw [<- hose] at hos HOG ⊢
 obtain ⟨i0, hi0⟩ := info_parts Tryz.infoInt
 have hmk := fun (wz : World) => run_make (P := Tryz.prog) wz 49 3 i0 (.int .i64 0) Tryz.underlying49 hi0.1 hi0.2.1 .i64 .i64 (nt : Int) (nt : Int) (by omega) (by omega) (by rw [hi0.2.2.2]; omega) (by omega)
 rw [hi0.2.2.1] at hmk
 simp only [Int.toNat_natCast, Nat.mul_one] at hmk
 have HI := zh (show Row (w.alloc (.cells (madeCells #[.int .i64 0] nt) 3)) w.heap.size nt (List.replicate nt 0) from own_made w 0 nt (Nat.zero_le _) (by unfold maxLen; omega))
 have HB0 := zh (z02 w (.cells (madeCells #[.int .i64 0] nt) 3))
 obtain ⟨gv, hgv⟩ : ∃ gv, gv = w.heap.size := ⟨_, rfl⟩
 have HGV := zh hgv
 have hze : (st.size : Int) = (nt : Int) := by omega
 clear hi0 h hL ho ho9 hle hst hnt hose
 go_enter Tryz.func49, Tryz.ntmps49
 go_wp2
 rw [<- hgv] at HI ⊢
 clear hgv
 go_loopw [8, 9] (fun l i wr => ∃ k : Nat, k <= nt /\ i = .int .i64 k /\ l = .int .i64 (z34 L al k : Nat) /\ Row wr gv nt (fillN al k) /\ Below w.heap.size w wr) (fun _ i _ => nt - (intOf i).toNat)
 case atStart => exact ⟨0, Nat.zero_le _, rfl, rfl, by have := uh HI; have e : fillN al 0 = List.replicate nt 0 := by { unfold fillN; rw [hl]; rfl }; rw [e]; exact this, uh HB0⟩
 case round =>
  obtain ⟨k, hk, rfl, rfl, hown, hbr⟩ := hrel
  have HBR := zh hbr
  have HOWN := zh hown
  by_cases hlt : k < nt
  ·have hkt : k < L.tns.length := by rw [<- uh HNT]; exact hlt
   have hks : k < st.size := by omega
   have hka : k < al.length := by omega
   obtain ⟨b, hb⟩ : ∃ b, (st[k]'hks).toNat = b := ⟨_, rfl⟩
   obtain ⟨a, ha⟩ : ∃ a, a = al[k] := ⟨_, rfl⟩
   have hga : al.getD k 0 = a := by rw [z06 hka, ha]
   have hb' : b = 48 + a := by rw [<- hb, z0j st k hks, uh HST k hkt, hga]
   have b256 : b < 256 := by rw [<- hb]; exact (st[k]'hks).toNat_lt
   have ei : IntKind.i64.wrap (b : Int) = b := Go.IntWalk.i64_in _ (by omega)
   have eu : (b : Int) - 48 = a := by omega
   have hfl := fillN_len al (k := k) (by omega)
   have xv := hown.cell (k := k) hlt (by omega)
   obtain ⟨x0, hx0⟩ : ∃ x, x = (fillN al k).getD k 0 := ⟨_, rfl⟩
   rw [<- hx0] at xv
   have zv := hown.frozen k
   have hgw : gv < wr.heap.size := hown.lt
   have HS := zh (show Row (wr.setCell ⟨gv, k, none⟩ (.int .i64 (a : Nat))) gv nt (fillN al (k + 1)) by
    have := hown.set k a
    rw [ha, fillN_set al hka] at this
    rw [ha]; exact this)
   have HB2 := zh (show Below w.heap.size w (wr.setCell ⟨gv, k, none⟩ (.int .i64 (a : Nat))) from only_below hbr (Nat.le_of_eq (uh HGV).symm))
   have HUN := zh (undone_succ L al k)
   unfold Lay.doneB at HUN
   rw [hga] at HUN
   have hul := undone_lek L al k
   generalize z34 L al k = un at *
   have l1 : (k : Int) < st.size := by omega
   have l2 : (k : Int) < nt := by omega
   have l0 : (0 : Int) <= k := by omega
   have ba : a <= 256 := by omega
   clear hfl hx0 hb' hga ha hown hbr
   go_upto_region 7 with fail
   generalize wr.setCell ⟨gv, k, none⟩ (.int .i64 (a : Nat)) = W2 at *
   obtain ⟨vh, vp, vf, va, vk, vw, vs, vj, e, -, -, -, -, -, -, -, a8⟩ := uh HKP W2 (uh HB2)
   obtain ⟨⟨-, -, -, -, -, -, -, -, -, -, c10⟩, hg⟩ := z0n e
   obtain ⟨gj, oj, cj, ar, cr, ev, hgj, xr, hui⟩ := z3h a8 k (by simpa using hkt)
   subst ev
   rw [tns_jny hkt] at xr
   rw [List.length_map, <- uh HNT] at c10
   have hjl := uh HJL k hkt
   obtain ⟨jl, hjle⟩ : ∃ n, n = (L.tn k).jny.length := ⟨_, rfl⟩
   rw [<- hjle] at xr hjl HUN
   have hfl := fillN_len al (k := k + 1) (by omega)
   have xv2 := (uh HS).cell (k := k) hlt (by omega)
   have hfa : (fillN al (k + 1)).getD k 0 = al[k] := by
    rw [z06 (by omega)]
    have e : (fillN al (k + 1))[k]? = some al[k] := by
     unfold fillN
     rw [List.getElem?_append_left (by rw [List.length_take]; omega), List.getElem?_take, if_pos (by omega), List.getElem?_eq_getElem hka]
    rw [List.getElem?_eq_getElem (by omega)] at e
    exact Option.some.inj e
   rw [hfa] at xv2
   have hgw2 : gv < W2.heap.size := (uh HS).lt
   have hak : al[k] = a := by
    have h1 := uh HST k hkt
    rw [z06 hka, <- z0j st k hks, hb] at h1
    omega
   rw [hak] at xv2
   clear hui e a8 xv zv hgw hfl hfa hjle hak
   by_cases hd : jl <= a
   ·have HU2 := zh (show z34 L al (k + 1) = un by rw [uh HUN, if_pos (by simpa using hd)]; rfl)
    have d1 : ¬ (a : Int) < jl := by omega
    have d2 : decide (a < jl) = false := by simp; omega
    clear hd HUN
    go_quiet (fail)
    go_wp2
    exact ⟨⟨k + 1, by omega, by go_num, by rw [uh HU2], ((uh HS).below (below_drewN (Below.refl _ _) _)), below_drewN (uh HB2) _⟩, by simp [intOf]; omega⟩
   ·have HU2 := zh (show z34 L al (k + 1) = un + 1 by rw [uh HUN, if_neg (by simpa using hd)])
    have d1 : (a : Int) < jl := by omega
    have d2 : decide (a < jl) = true := by simp; omega
    clear hd HUN
    go_quiet (fail)
    go_wp2
    exact ⟨⟨k + 1, by omega, by go_num, by rw [uh HU2]; go_num, ((uh HS).below (below_drewN (Below.refl _ _) _)), below_drewN (uh HB2) _⟩, by simp [intOf]; omega⟩
  ·have l1 : ¬ (k : Int) < st.size := by omega
   obtain rfl : nt = k := by omega
   have HO0 := zh (show Row wr gv nt (atN L al o 0) by
    have := hown
    have e : fillN al nt = al := by rw [<- hl]; exact fillN_end al
    rw [e] at this
    exact this)
   rw [<- hund]
   clear hown hbr HOWN
   go_wp2
   go_loopw [10] (fun i wq => ∃ j : Nat, j <= o.length /\ i = .int .i64 j /\ Row wq gv nt (atN L al o j) /\ Below w.heap.size w wq) (fun i _ => o.length - (intOf i).toNat)
   case atStart => exact ⟨0, Nat.zero_le _, rfl, uh HO0, uh HBR⟩
   case round =>
    clear HO0 HBR
    obtain ⟨j, hj, rfl, hown, hbq⟩ := hrel
    have HBQ := zh hbq
    have HOWN := zh hown
    by_cases hjt : j < o.length
    ·have hjs : j < os.size := by omega
     obtain ⟨u, hu⟩ : ∃ u, (os[j]'hjs).toNat = u := ⟨_, rfl⟩
     have hue : u = 49 + o[j] := by have := uh HOG j hjs; rw [z06 hjt, hu] at this; exact this
     obtain ⟨f1, f2, f3⟩ := atN_now L al o (uh HFO) hjt
     rw [z06 hjt] at f1 f2 f3
     have h9 := uh H9 _ (List.getElem_mem hjt)
     obtain ⟨t, hte⟩ : ∃ t, t = o[j] := ⟨_, rfl⟩
     have hnx : atN L al o (j + 1) = (atN L al o j).set t (L.tn t).jny.length := by
      show L.withN (atN L al o j) (o.getD j 0) = _
      rw [z06 hjt, <- hte]
      rfl
     rw [<- hte] at hue f1 f2 f3 h9
     have htk : t < L.tns.length := by rw [<- uh HNT]; omega
     have hlen := atN_len L al o j
     have hnle := atN_le L al o (uh HLE) j
     generalize atN L al o j = an at *
     obtain ⟨vh, vp, vf, va, vk, vw, vs, vj, e, -, -, -, -, -, -, -, a8⟩ := uh HKP wr hbq
     obtain ⟨⟨-, -, -, -, -, -, -, -, -, -, c10⟩, hg⟩ := z0n e
     obtain ⟨gj, oj, cj, ar, cr, ev, hgj, xr, hui⟩ := z3h a8 t (by simpa using htk)
     subst ev
     rw [tns_jny htk] at xr
     rw [List.length_map, <- uh HNT] at c10
     have hjl := uh HJL t htk
     have hta : t < an.length := by omega
     have xv := hown.cell (k := t) (by omega) (by omega)
     have zv := hown.frozen t
     have hgw : gv < wr.heap.size := hown.lt
     obtain ⟨a, hae⟩ : ∃ a, a = an.getD t 0 := ⟨_, rfl⟩
     rw [<- hae] at xv f2
     obtain ⟨jl, hjle⟩ : ∃ n, n = (L.tn t).jny.length := ⟨_, rfl⟩
     rw [<- hjle] at xr hjl f2 hnx
     have HIN := zh (show Ints wr (.slice (some ⟨gv, 0, none⟩) nt nt) an from Ints.ofOwn hown (by omega))
     have HB1 := zh (fun (n : Nat) => uh HBL t an (.slice (some ⟨gv, 0, none⟩) nt nt) (wr.drewN n) (below_drewN hbq n) ((uh HIN).below (below_drewN (Below.refl _ _) n)) (by rw [hlen, hl]; exact uh HNT) htk hnle f3)
     have HNX := zh hnx
     have u256 : u < 256 := by omega
     have ei : IntKind.i64.wrap (u : Int) = u := Go.IntWalk.i64_in _ (by omega)
     have eu : (u : Int) - 49 = t := by omega
     have l1 : (j : Int) < os.size := by omega
     have l0 : (0 : Int) <= j := by omega
     have l2 : (t : Int) < st.size := by omega
     have l3 : (t : Int) < nt := by omega
     have l4 : (0 : Int) <= t := by omega
     have l5 : decide ((t : Int) < 0) = false := by simp
     have l5' : decide (t < 0) = false := by simp
     have l6 : decide (nt <= t) = false := by simp; omega
     have l6' : decide ((nt : Int) <= (t : Int)) = false := by simp; omega
     have l7 : decide (jl <= a) = false := by simp; omega
     have l7' : ¬ (jl : Int) <= a := by omega
     have ba : a <= 1000 := by omega
     have bt : t <= 100 := by omega
     clear hui e a8 hnx hown hbq hae hjle hte hue f3 hnle
     go_wp2
     go_quiet (fail)
     go_wp2_with fail
     refine (uh HB1 nq).mono ?_
     rintro e w2 ⟨rfl, m2, hw2⟩
     have HW2 := zh (show w2 = wr.drewN (nq + m2) by rw [hw2, z20])
     have o10 : w2.cell? ⟨g, 10, none⟩ = some (.slice (some ⟨gj, oj, none⟩) nt cj) := by rw [hw2]; exact c10
     have oxr : w2.cell? ⟨gj, oj + t, none⟩ = some (.slice ar jl cr) := by rw [hw2]; exact xr
     have oxv : w2.cell? ⟨gv, t, none⟩ = some (.int .i64 (a : Nat)) := by rw [hw2]; exact xv
     have og : g < w2.heap.size := by rw [hw2]; exact hg
     have ogj : gj < w2.heap.size := by rw [hw2]; exact hgj
     have ogv : gv < w2.heap.size := by rw [hw2]; exact hgw
     have hown2 : Row w2 gv nt an := by rw [hw2]; exact ((uh HOWN).below (below_drewN (Below.refl _ _) _)).below (below_drewN (Below.refl _ _) _)
     have ozv := hown2.frozen t
     have HB2 := zh (show Below w.heap.size w w2 by rw [uh HW2]; exact below_drewN (uh HBQ) _)
     have HS := zh (show Row (w2.setCell ⟨gv, t, none⟩ (.int .i64 (jl : Nat))) gv nt (atN L al o (j + 1)) by
      rw [uh HNX]; exact hown2.set t jl)
     clear hw2 hown2 c10 xr xv zv hgw hg hgj HB1 HOWN
     go_wp2
     exact ⟨⟨j + 1, by omega, by go_num, uh HS, only_below (uh HB2) (Nat.le_of_eq (uh HGV).symm)⟩, by simp [intOf]; omega⟩
    ·have l1 : ¬ (j : Int) < os.size := by omega
     have hlen : ((os.size : Int) == (o.length : Int)) = true := by simp; omega
     clear hown hbq
     go_wp2
     go_ret
     exact ⟨rfl, uh HBQ⟩
end Go.Proofs.YtkbpocecbcaiiabGreatDoor
