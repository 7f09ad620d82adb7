import Derived.Test.YtkbpocecbcaiiabGreatDoorO56
namespace Go.Proofs.YtkbpocecbcaiiabGreatDoor
open Go.RowKit
def plen (L : Lay) (r : Nat) : Nat := (secs (L.rt r).path).length
def psec (L : Lay) (r i : Nat) : Nat := (secs (L.rt r).path).getD i 0
def Ahead (L : Lay) (W : Wd) (s t r : Nat) : Prop := s = W.done.getD t 0 + 1 /\ W.done.getD t 0 < (L.tn t).jny.length /\ W.rt L t = r
structure OnIt (x : RLn) (h tl : Int) (n : Nat) (e : Bool) : Prop where
 ph : x.ph = 116
 h0 : 0 <= h
 hl : h < n
 tt : tl = h \/ tl = h - 1
 tn : tl = h -> h + 1 < n
 g : x.gone = 0 \/ (x.gone : Int) <= tl
 m1 : ∀ i : Nat, x.gone <= i -> (i : Int) <= (if e then tl else h) -> x.marks.getD i false = true
 m2 : ∀ i : Nat, x.gone <= i -> x.marks.getD i false = true -> (i : Int) <= h
structure PastIt (L : Lay) (W : Wd) (s t r : Nat) (x : RLn) : Prop where
 ph : x.ph = 116
 es : s = W.done.getD t 0
 d : 1 <= W.done.getD t 0
 er : (L.tn t).jny.getD (W.done.getD t 0 - 1) 0 = r
 h : W.head.getD t 0 < 0
 m : ∀ i, x.gone <= i -> i < plen L r -> x.marks.getD i false = true
def TrL (L : Lay) (W : Wd) (s t r : Nat) (x : RLn) (e : Bool) : Prop :=
 ((x.ph = 119 \/ x.ph = 103) /\ Ahead L W s t r /\ W.head.getD t 0 < 0) ∨
 (e = true /\ x.ph = 103 /\ Ahead L W s t r /\ W.head.getD t 0 = 0 /\ W.tail.getD t 0 = -1) ∨
 (Ahead L W s t r /\ OnIt x (W.head.getD t 0) (W.tail.getD t 0) (plen L r) e) ∨
 PastIt L W s t r x
structure Trs (L : Lay) (C : RBx) (W : Wd) (e : Nat -> Bool) : Prop where
 ln : ∀ r, (C.line r).ph ≠ 46 -> TrL L W (C.sta.getD (C.line r).train 0) (C.line r).train r (C.line r) (e (C.line r).train)
 no : ∀ t, t < L.tns.length -> (∀ r, (C.line r).ph ≠ 46 -> (C.line r).train ≠ t) -> C.sta.getD t 0 = W.done.getD t 0 /\ W.head.getD t 0 < 0
 gn : ∀ t, t < L.tns.length -> W.gone.getD t false = true -> (L.tn t).jny.length <= W.done.getD t 0
 dl : ∀ t, t < L.tns.length -> W.done.getD t 0 <= (L.tn t).jny.length
 hb : ∀ t, t < L.tns.length -> -1 <= W.head.getD t 0
 A : ∀ r s t, C.lockB s r = true -> t < L.tns.length -> W.onB L t s = true -> t = (C.line r).train
 po : ∀ t u s, t < L.tns.length -> u < L.tns.length -> W.onB L t s = true -> W.onB L u s = true -> t = u
theorem SameT.gd {W V : Wd} (h : SameT W V) (t : Nat) : V.done.getD t 0 = W.done.getD t 0 /\ V.head.getD t 0 = W.head.getD t 0 /\ V.tail.getD t 0 = W.tail.getD t 0 /\ V.gone.getD t false = W.gone.getD t false := by
 obtain ⟨a, b, c, d⟩ := h
 rw [a, b, c, d]; exact ⟨rfl, rfl, rfl, rfl⟩
theorem TrL.congr {L : Lay} {W V : Wd} {s t r : Nat} {x : RLn} {e : Bool} (hd : V.done.getD t 0 = W.done.getD t 0) (hh : V.head.getD t 0 = W.head.getD t 0) (ht : V.tail.getD t 0 = W.tail.getD t 0) (h : TrL L W s t r x e) : TrL L V s t r x e := by
 have hr : V.rt L t = W.rt L t := by unfold Wd.rt; rw [hd]
 unfold TrL Ahead at *
 rw [hh, ht, hd, hr]
 rcases h with h | h | h | h
 ·exact .inl h
 ·exact .inr (.inl h)
 ·exact .inr (.inr (.inl h))
 ·exact .inr (.inr (.inr ⟨h.ph, by rw [hd]; exact h.es, by rw [hd]; exact h.d, by rw [hd]; exact h.er, by rw [hh]; exact h.h, h.m⟩))
theorem TrL.up {L : Lay} {W : Wd} {s t r : Nat} {x : RLn} (h : TrL L W s t r x false) (e : Bool) : TrL L W s t r x e := by
 rcases h with h | h | h | h
 ·exact .inl h
 ·cases h.1
 ·refine .inr (.inr (.inl ⟨h.1, h.2.ph, h.2.h0, h.2.hl, h.2.tt, h.2.tn, h.2.g, fun i hi hl => h.2.m1 i hi ?_, h.2.m2⟩))
  have := h.2.tt
  cases e with
  | false => exact hl
  | true =>
   rw [if_pos rfl] at hl
   rw [if_neg (by decide)]
   omega
 ·exact .inr (.inr (.inr h))
theorem Trs.sameT {L : Lay} {C : RBx} {W V : Wd} {e : Nat -> Bool} (h : Trs L C W e) (hs : SameT W V) : Trs L C V e := by
 refine ⟨fun r hr => ?_, fun t ht hn => ?_, fun t ht hg => ?_, fun t ht => ?_, fun t ht => ?_, fun r s t hl ht ho => ?_, fun t u s ht hu h1 h2 => ?_⟩
 ·obtain ⟨a, b, c, -⟩ := hs.gd (C.line r).train
  exact (h.ln r hr).congr a b c
 ·obtain ⟨a, b, -⟩ := hs.gd t
  rw [a, b]; exact h.no t ht hn
 ·obtain ⟨a, b, c, d⟩ := hs.gd t
  rw [a]; exact h.gn t ht (by rw [<- d]; exact hg)
 ·rw [(hs.gd t).1]; exact h.dl t ht
 ·rw [(hs.gd t).2.1]; exact h.hb t ht
 ·rw [hs.on] at ho; exact h.A r s t hl ht ho
 ·rw [hs.on] at h1 h2; exact h.po t u s ht hu h1 h2
theorem psec_mem {L : Lay} {r i : Nat} (hi : i < plen L r) : psec L r i ∈ secs (L.rt r).path := by
 unfold psec
 rw [z05 hi]
 exact List.getElem_mem hi
theorem psec_inj {L : Lay} (hT : LayT L) {r i j : Nat} (hr : r < L.rts.length) (hi : i < plen L r) (hj : j < plen L r) (e : psec L r i = psec L r j) : i = j := by
 unfold psec at e
 rw [z05 hi, z05 hj] at e
 have hp := List.pairwise_iff_getElem.1 (hT.ok r hr).pn
 rcases Nat.lt_trichotomy i j with h | h | h
 ·exact absurd e (hp i j hi hj h)
 ·exact h
 ·exact absurd e.symm (hp j i hj hi h)
theorem z4x {L : Lay} (hT : LayT L) {r i : Nat} (hr : r < L.rts.length) (hi : i < plen L r) : psec L r i ≠ (L.rt r).foot := fun e => hT.ft r hr (by rw [<- e]; exact psec_mem hi)
theorem plen_pos {L : Lay} (hT : LayT L) {r : Nat} (hr : r < L.rts.length) : 0 < plen L r := by
 have := (hT.ok r hr).ne
 unfold plen
 rw [z0o]
 exact List.length_pos_iff.2 this
theorem plen_le {L : Lay} (hT : LayT L) {r : Nat} (hr : r < L.rts.length) : plen L r <= 6 := by
 unfold plen
 rw [z0o]
 exact (hT.ok r hr).pl
theorem psec_lt {L : Lay} (hT : LayT L) {r i : Nat} (hr : r < L.rts.length) (hi : i < plen L r) : psec L r i < L.sw.length := by
 have := psec_mem hi
 unfold secs at this
 obtain ⟨y, hy, e⟩ := List.mem_map.1 this
 rw [<- e]
 exact ((hT.ok r hr).ps y hy).1
theorem psec_end {L : Lay} (hT : LayT L) {r : Nat} (hr : r < L.rts.length) : L.endOf r = psec L r (plen L r - 1) := by
 have hp := plen_pos hT hr
 unfold psec Lay.endOf
 rw [z05 (by unfold plen at *; omega)]
 exact (lastN_secs _ hp).symm
theorem lock_iff {L : Lay} {C : RBx} (hL : C.L = L) {r i : Nat} (hi : i < plen L r) (hp : (C.line r).ph ≠ 46) (hg : (C.line r).gone <= i) : C.lockB (psec L r i) r = true := by
 unfold RBx.lockB
 simp only [Bool.and_eq_true, bne_iff_ne, ne_eq, List.contains_iff_mem]
 refine ⟨hp, ?_⟩
 rw [hL]
 unfold psec
 rw [z05 hi, List.mem_iff_getElem]
 unfold plen at hi
 refine ⟨i - (C.line r).gone, by rw [List.length_drop]; omega, ?_⟩
 rw [List.getElem_drop]
 congr 1
 omega
theorem lock_ix {L : Lay} {C : RBx} (hL : C.L = L) {r s : Nat} (h : C.lockB s r = true) : (C.line r).ph ≠ 46 /\ ∃ i, (C.line r).gone <= i /\ i < plen L r /\ psec L r i = s := by
 unfold RBx.lockB at h
 simp only [Bool.and_eq_true, bne_iff_ne, ne_eq, List.contains_iff_mem] at h
 refine ⟨h.1, ?_⟩
 obtain ⟨j, hj, e⟩ := List.mem_iff_getElem.1 h.2
 rw [hL, List.length_drop] at hj
 refine ⟨(C.line r).gone + j, by omega, by unfold plen; omega, ?_⟩
 unfold psec
 rw [z05 (by omega), <- e, List.getElem_drop]
 simp only [hL]
theorem on_path {L : Lay} (hT : LayT L) {W : Wd} {t r s : Nat} (hr : r < L.rts.length) (hg : W.gone.getD t false = false) (hA : Ahead L W s t r) (h0 : 0 <= W.head.getD t 0) (hl : W.head.getD t 0 < plen L r) (ht : -1 <= W.tail.getD t 0) {i : Nat} (hi : i < plen L r) : W.onB L t (psec L r i) = true ↔ W.tail.getD t 0 <= i /\ (i : Int) <= W.head.getD t 0 := by
 rw [z4a]
 refine ⟨fun ⟨_, h⟩ => ?_, fun ⟨h1, h2⟩ => ⟨hg, .inr ⟨h0, i, h1, h2, ?_⟩⟩⟩
 ·rcases h with h | ⟨-, j, h1, h2, e⟩
  ·omega
  ·rcases Int.lt_or_le j 0 with hj | hj
   ·have : j = -1 := by omega
    rw [this, place_neg, hA.2.2] at e
    exact absurd e.symm (z4x hT hr hi)
   ·obtain ⟨k, hk⟩ : ∃ k : Nat, j = k := ⟨j.toNat, by omega⟩
    subst hk
    rw [place_at, hA.2.2] at e
    have := psec_inj hT hr (i := k) (j := i) (by omega) hi e
    omega
 ·rw [place_at, hA.2.2]; rfl
theorem on_foot {L : Lay} {W : Wd} {t r s : Nat} (hg : W.gone.getD t false = false) (hA : Ahead L W s t r) (h0 : 0 <= W.head.getD t 0) (ht : W.tail.getD t 0 = -1) : W.onB L t (L.rt r).foot = true := by
 rw [z4a]
 exact ⟨hg, .inr ⟨h0, -1, by omega, by omega, by rw [place_neg, hA.2.2]⟩⟩
theorem on_stand {L : Lay} (hT : LayT L) {W : Wd} {t r s : Nat} (ht : t < L.tns.length) (hg : W.gone.getD t false = false) (hA : Ahead L W s t r) (h0 : W.head.getD t 0 < 0) : W.onB L t (L.rt r).foot = true := by
 rw [z4a]
 exact ⟨hg, .inl ⟨h0, by rw [z3k hT ht hA.2.1, hA.2.2]⟩⟩
theorem Trs.notGone {L : Lay} {C : RBx} {W : Wd} {e : Nat -> Bool} (h : Trs L C W e) {s t r : Nat} (ht : t < L.tns.length) (hA : Ahead L W s t r) : W.gone.getD t false = false := by
 cases hg : W.gone.getD t false with
 | false => rfl
 | true => have := h.gn t ht hg; have := hA.2.1; omega
theorem step_e119 {C : RBx} (f : Fr) {r : Nat} (h : (C.line r).ph = 119) (hb : C.broken r = false) : C.step f r = if C.right f r && !C.busy f r then C.put r ⟨103, (C.line r).train, true, (C.line r).marks, (C.line r).gone, (C.line r).count⟩ else C := by
 unfold RBx.step
 rw [if_pos h, if_neg (by rw [hb]; decide)]
theorem step_e103 {C : RBx} (f : Fr) {r : Nat} (h : (C.line r).ph = 103) (hb : C.broken r = false) : C.step f r = if C.inB f r then C.overtaken r else if !C.right f r || C.busy f r then C.put r ((C.line r).withP 119) else C := by
 unfold RBx.step
 rw [if_neg (by omega), if_pos h, if_neg (show ¬ C.broken r = true by rw [hb]; decide)]
theorem step_e116 {C : RBx} (f : Fr) {r : Nat} (h : (C.line r).ph = 116) : C.step f r = C.passed f r := by
 unfold RBx.step
 rw [if_neg (by omega), if_neg (by omega), if_pos h]
def bef (L : Lay) (r i : Nat) : Nat := if 0 < i then psec L r (i - 1) else (L.rt r).foot
def Stood (L : Lay) (W : Wd) (s t r : Nat) (x : RLn) : Prop := (x.ph = 119 \/ x.ph = 103) /\ Ahead L W s t r /\ W.head.getD t 0 < 0
def Going (L : Lay) (W : Wd) (s t r : Nat) (x : RLn) (e : Bool) : Prop := Ahead L W s t r /\ OnIt x (W.head.getD t 0) (W.tail.getD t 0) (plen L r) e
def Enter0 (L : Lay) (W : Wd) (s t r : Nat) (x : RLn) : Prop := x.ph = 103 /\ Ahead L W s t r /\ W.head.getD t 0 = 0 /\ W.tail.getD t 0 = -1
def StepT (L : Lay) (W : Wd) (f : Fr) (C : RBx) (s t r : Nat) (x y : RLn) : Prop :=
 (Stood L W s t r x /\ Stood L W s t r y /\ y.train = t /\ y.gone = x.gone /\ (C.right f r = true -> C.busy f r = false -> y.ph = 103)) ∨
 ((Enter0 L W s t r x \/ Going L W s t r x true) /\ Going L W s t r y false /\ y.train = t) ∨
 (PastIt L W s t r x /\ y = RLn0) ∨
 (PastIt L W s t r x /\ PastIt L W s t r y /\ y.train = t /\ (x.gone + 1 < plen L r -> y.gone = x.gone + 1) /\ (x.gone + 1 = plen L r -> W.takenB L (bef L r x.gone) = true /\ y.gone = x.gone))
theorem ov_get (n i : Nat) (h : (z1x n).getD i false = true) : i = 0 := by
 unfold z1x at h
 by_cases e : i = 0
 ·exact e
 ·rw [z0h _ _ _ _ _ e, List.getD_eq_getElem?_getD, List.getElem?_replicate] at h
  split at h <;> cases h
theorem ov_zero (n : Nat) (h : 0 < n) : (z1x n).getD 0 false = true := by
 unfold z1x
 rw [z0d _ _ _ _ _ (by simpa using h), if_pos rfl]
theorem step_tr {L : Lay} {C C' : RBx} {W : Wd} {f : Fr} (hT : LayT L) (hi : Inv C) (hL : C.L = L) (hTr : Trs L C W (fun _ => true)) (hoc : ∀ x, x < L.sw.length -> f.occ.getD x false = W.takenB L x) {r : Nat} (hl : C'.line r = C.line r) (hL' : C'.L = L) (hr' : r < C'.lines.length) (hb : C'.broken r = false) (hp : (C.line r).ph ≠ 46) :
  StepT L W f C' (C.sta.getD (C.line r).train 0) (C.line r).train r (C.line r) ((C'.step f r).line r) := by
 have hr : r < L.rts.length := by rw [<- hL, <- hi.ll]; exact z14 hp
 have hrC : r < C.L.rts.length := by rw [hL]; exact hr
 have hpt : C'.pth r = secs (L.rt r).path := by unfold RBx.pth; rw [hL']
 have hpu : ∀ x, (C'.put r x).line r = x := fun x => by rw [z13 C' r r x hr', if_pos rfl]
 have htr := (hi.tr r hrC hp).1
 rw [hL] at htr
 have hA := hTr.A r
 have hli := hi.li r hrC
 have hln := hTr.ln r hp
 have hpp := plen_pos hT hr
 obtain ⟨x, hx⟩ : ∃ x, x = C.line r := ⟨_, rfl⟩
 obtain ⟨t, ht⟩ : ∃ t, t = x.train := ⟨_, rfl⟩
 have hlk : ∀ i, x.gone <= i -> i < plen L r -> C.lockB (psec L r i) r = true := fun i h1 h2 => lock_iff hL h2 hp (by rw [<- hx]; exact h1)
 have hon : ∀ i, x.gone <= i -> i < plen L r -> f.occ.getD (psec L r i) false = true -> W.onB L t (psec L r i) = true := fun i h1 h2 h3 => by
  rw [hoc _ (psec_lt hT hr h2), z28] at h3
  obtain ⟨u, hu, ho⟩ := h3
  have := hA (psec L r i) u (hlk i h1 h2) hu ho
  rw [<- hx, <- ht] at this
  rw [<- this]; exact ho
 rw [<- hx] at hl hp htr hli hln ⊢
 rw [<- ht] at htr hln ⊢
 obtain ⟨s, hs⟩ : ∃ s, s = C.sta.getD t 0 := ⟨_, rfl⟩
 rw [<- hs] at hln ⊢
 have hof : ∀ y, y < L.sw.length -> W.onB L t y = true -> f.occ.getD y false = true := fun y hy ho => by
  rw [hoc y hy, z28]; exact ⟨t, htr, ho⟩
 rcases hln with hS | ⟨-, hE1, hE2, hE3, hE4⟩ | hO | hP
 ·have hg0 : x.gone = 0 := hli.g0 (by omega)
  have hng := hTr.notGone htr hS.2.1
  have hno : ∀ i, i < plen L r -> f.occ.getD (psec L r i) false = false := fun i h2 => by
   cases hoo : f.occ.getD (psec L r i) false with
   | false => rfl
   | true =>
    exfalso
    have := hon i (by omega) h2 hoo
    rw [z4a] at this
    rcases this.2 with ⟨-, e⟩ | ⟨e, -⟩
    ·rw [z3k hT htr hS.2.1.2.1, hS.2.1.2.2] at e
     exact z4x hT hr h2 e.symm
    ·have := hS.2.2; omega
  refine .inl ⟨hS, ?_⟩
  rcases hS.1 with e | e
  ·rw [step_e119 f (by rw [hl]; exact e) hb]
   by_cases hc : (C'.right f r && !C'.busy f r) = true
   ·rw [if_pos hc, hpu, hl]
    exact ⟨⟨.inr rfl, hS.2⟩, ht.symm, rfl, fun _ _ => rfl⟩
   ·rw [if_neg hc, hl]
    refine ⟨hS, ht.symm, rfl, fun h1 h2 => ?_⟩
    rw [h1, h2] at hc
    exact absurd rfl hc
  ·have hin : C'.inB f r = false := by
    unfold RBx.inB
    rw [hpt]
    exact hno 0 hpp
   rw [step_e103 f (by rw [hl]; exact e) hb, if_neg (by rw [hin]; decide)]
   by_cases hc : (!C'.right f r || C'.busy f r) = true
   ·rw [if_pos hc, hpu, hl]
    refine ⟨⟨.inl rfl, hS.2⟩, ht.symm, rfl, fun h1 h2 => ?_⟩
    rw [h1, h2] at hc
    cases hc
   ·rw [if_neg hc, hl]
    exact ⟨hS, ht.symm, rfl, fun _ _ => e⟩
 ·have hg0 : x.gone = 0 := hli.g0 (by omega)
  have hng := hTr.notGone htr hE2
  have h0 : W.onB L t (psec L r 0) = true := (on_path hT hr hng hE2 (by omega) (by omega) (by omega) hpp).2 ⟨by omega, by omega⟩
  have hin : C'.inB f r = true := by
   unfold RBx.inB
   rw [hpt]
   exact hof _ (psec_lt hT hr hpp) h0
  refine .inr (.inl ⟨.inl ⟨hE1, hE2, hE3, hE4⟩, ?_⟩)
  rw [step_e103 f (by rw [hl]; exact hE1) hb, if_pos hin]
  have e : (C'.overtaken r).line r = { C'.line r with marks := z1x (C'.L.rt r).path.length, ph := 116 } := by
   unfold RBx.overtaken RBx.line
   rw [z0d _ _ _ _ _ hr', if_pos rfl]
  rw [e, hl, hL']
  refine ⟨⟨hE2, rfl, by omega, by omega, by omega, by omega, .inl hg0, fun i _ h2 => ?_, fun i _ h2 => ?_⟩, ht.symm⟩
  ·simp only [Bool.false_eq_true, if_false] at h2
   have : i = 0 := by omega
   subst this
   exact ov_zero _ (by rw [<- z0o]; exact hpp)
  ·have := ov_get _ _ h2
   omega
 ·obtain ⟨hAh, hO⟩ := hO
  have hng := hTr.notGone htr hAh
  have hml := (hli.ps hO.ph).1
  rw [hL] at hml
  have hgl := (hli.ps hO.ph).2
  rw [hL] at hgl
  have hpl : plen L r = (L.rt r).path.length := by unfold plen; rw [z0o]
  have htt := hO.tt
  have hh0 := hO.h0
  have hhl := hO.hl
  have hop : ∀ i, x.gone <= i -> i < plen L r -> (f.occ.getD (psec L r i) false = true ↔ W.tail.getD t 0 <= i /\ (i : Int) <= W.head.getD t 0) := fun i h1 h2 =>
   ⟨fun h => (on_path hT hr hng hAh hh0 hhl (by omega) h2).1 (hon i h1 h2 h), fun h => hof _ (psec_lt hT hr h2) ((on_path hT hr hng hAh hh0 hhl (by omega) h2).2 h)⟩
  obtain ⟨m, hm⟩ : ∃ m, m = markN x.marks (secs (L.rt r).path) f.occ (secs (L.rt r).path).length := ⟨_, rfl⟩
  have hmg : ∀ i, i < plen L r -> m.getD i false = (x.marks.getD i false || f.occ.getD (psec L r i) false) := fun i h2 => by
   rw [hm, markN_get _ _ _ i (by omega)]
   have : decide (i < (secs (L.rt r).path).length) = true := by simpa [plen] using h2
   rw [this, Bool.true_and]; rfl
  have hm1 : ∀ i : Nat, x.gone <= i -> (i : Int) <= W.head.getD t 0 -> m.getD i false = true := fun i h1 h2 => by
   rw [hmg i (by omega)]
   rcases Int.lt_or_le (W.tail.getD t 0) i with h3 | h3
   ·rw [(hop i h1 (by omega)).2 ⟨by omega, h2⟩, Bool.or_true]
   ·rw [hO.m1 i h1 (by simpa using h3), Bool.true_or]
  have hm2 : ∀ i : Nat, x.gone <= i -> m.getD i false = true -> (i : Int) <= W.head.getD t 0 := fun i h1 h2 => by
   rcases Nat.lt_or_ge i (plen L r) with h3 | h3
   ·rw [hmg i h3] at h2
    rcases Bool.or_eq_true _ _ ▸ h2 with h4 | h4
    ·exact hO.m2 i h1 h4
    ·exact ((hop i h1 h3).1 h4).2
   ·rw [List.getD_eq_getElem?_getD, List.getElem?_eq_none (by rw [hm, markN_len]; omega)] at h2
    cases h2
  have hk : C'.mkd f r = { x with marks := m } := by
   unfold RBx.mkd
   rw [hl, hpt, <- hm]
  refine .inr (.inl ⟨.inr ⟨hAh, hO⟩, ?_⟩)
  rw [step_e116 f (by rw [hl]; exact hO.ph)]
  have same : Going L W s t r { x with marks := m } false /\ ({ x with marks := m } : RLn).train = t := ⟨⟨hAh, hO.ph, hO.h0, hO.hl, hO.tt, hO.tn, hO.g, fun i h1 h2 => hm1 i h1 (by simpa using h2), hm2⟩, ht.symm⟩
  unfold RBx.passed
  rw [hk, hl, hpt]
  by_cases c1 : m.getD x.gone false = false
  ·rw [if_pos c1, hpu]; exact same
  ·rw [if_neg c1]
   by_cases c2 : x.gone + 1 < (secs (L.rt r).path).length
   ·rw [if_pos c2]
    by_cases c3 : f.occ.getD ((secs (L.rt r).path).getD x.gone 0) false = false /\ m.getD (x.gone + 1) false = true
    ·rw [if_pos c3, hpu]
     have h1 := hm2 (x.gone + 1) (by omega) c3.2
     have h2 : ¬ (W.tail.getD t 0 <= (x.gone : Nat) /\ ((x.gone : Nat) : Int) <= W.head.getD t 0) := fun h => by
      have := (hop x.gone (Nat.le_refl _) (by unfold plen; omega)).2 h
      have h3 := c3.1
      unfold psec at this
      rw [this] at h3
      cases h3
     have h3 : (x.gone : Int) + 1 <= W.tail.getD t 0 := by omega
     exact ⟨⟨hAh, hO.ph, hO.h0, hO.hl, hO.tt, hO.tn, .inr (by show ((x.gone + 1 : Nat) : Int) <= _; omega), fun i h4 h5 => hm1 i (by have h4' : x.gone + 1 <= i := h4; omega) (by simpa using h5), fun i h4 h5 => hm2 i (by have h4' : x.gone + 1 <= i := h4; omega) h5⟩, ht.symm⟩
    ·rw [if_neg c3, hpu]; exact same
   ·rw [if_neg c2]
    have hge : x.gone + 1 = plen L r := by unfold plen at hpl ⊢; omega
    have c1' : m.getD x.gone false = true := by simpa using c1
    have h1 := hm2 x.gone (Nat.le_refl _) c1'
    have h2 : W.tail.getD t 0 = W.head.getD t 0 - 1 := by
     rcases htt with e | e
     ·have := hO.tn e; omega
     ·exact e
    have hbo : f.occ.getD (if 0 < x.gone then (secs (L.rt r).path).getD (x.gone - 1) 0 else (L.rt r).foot) false = true := by
     by_cases g0 : 0 < x.gone
     ·rw [if_pos g0]
      refine hof _ (psec_lt hT hr (i := x.gone - 1) (by omega)) ((on_path hT hr hng hAh hh0 hhl (by omega) (by omega)).2 ⟨by omega, by omega⟩)
     ·rw [if_neg g0]
      exact hof _ (hT.ok r hr).foot (on_foot hng hAh hh0 (by omega))
    rw [hL', if_pos hbo, hpu]; exact same
 ·have hml := (hli.ps hP.ph).1
  rw [hL] at hml
  have hgl := (hli.ps hP.ph).2
  rw [hL] at hgl
  have hpl : plen L r = (L.rt r).path.length := by unfold plen; rw [z0o]
  obtain ⟨m, hm⟩ : ∃ m, m = markN x.marks (secs (L.rt r).path) f.occ (secs (L.rt r).path).length := ⟨_, rfl⟩
  have hm1 : ∀ i, x.gone <= i -> i < plen L r -> m.getD i false = true := fun i h1 h2 => by
   rw [hm, markN_get _ _ _ i (by omega), hP.m i h1 h2, Bool.true_or]
  have hk : C'.mkd f r = { x with marks := m } := by
   unfold RBx.mkd
   rw [hl, hpt, <- hm]
  rw [step_e116 f (by rw [hl]; exact hP.ph)]
  unfold RBx.passed
  rw [hk, hl, hpt]
  have hc1 : m.getD x.gone false = true := hm1 _ (Nat.le_refl _) (by omega)
  rw [if_neg (by show ¬ m.getD x.gone false = false; rw [hc1]; decide)]
  by_cases c2 : x.gone + 1 < (secs (L.rt r).path).length
  ·rw [if_pos c2]
   have hno : f.occ.getD ((secs (L.rt r).path).getD x.gone 0) false = false := by
    cases hoo : f.occ.getD ((secs (L.rt r).path).getD x.gone 0) false with
    | false => rfl
    | true =>
     exfalso
     have h1 := hon x.gone (Nat.le_refl _) (by omega) hoo
     rw [z4a] at h1
     rcases h1.2 with ⟨-, e⟩ | ⟨e, -⟩
     ·unfold Wd.stand at e
      rw [if_neg (by have := hP.d; omega), hP.er, psec_end hT hr] at e
      have := psec_inj hT hr (by omega) (by omega) e
      unfold plen at this
      omega
     ·have := hP.h; omega
   rw [if_pos ⟨hno, hm1 (x.gone + 1) (by omega) c2⟩, hpu]
   refine .inr (.inr (.inr ⟨hP, ⟨hP.ph, hP.es, hP.d, hP.er, hP.h, fun i h1 h2 => hm1 i (by have h1' : x.gone + 1 <= i := h1; omega) h2⟩, ht.symm, fun _ => rfl, fun e => ?_⟩))
   unfold plen at e
   omega
  ·rw [if_neg c2]
   have hge : x.gone + 1 = plen L r := by unfold plen at hpl ⊢; omega
   rw [hL']
   by_cases c3 : f.occ.getD (if 0 < x.gone then (secs (L.rt r).path).getD (x.gone - 1) 0 else (L.rt r).foot) false = true
   ·rw [if_pos c3, hpu]
    refine .inr (.inr (.inr ⟨hP, ⟨hP.ph, hP.es, hP.d, hP.er, hP.h, hm1⟩, ht.symm, fun e => by omega, fun _ => ⟨?_, rfl⟩⟩))
    have hlt : bef L r x.gone < L.sw.length := by
     unfold bef
     split
     ·exact psec_lt hT hr (by omega)
     ·exact (hT.ok r hr).foot
    rw [<- hoc _ hlt]
    exact c3
   ·rw [if_neg c3, hpu]
    exact .inr (.inr (.inl ⟨hP, rfl⟩))
theorem grant_fl (C : RBx) (f : Fr) (t : Nat) : (C.grant f t).failed = C.failed /\ (C.grant f t).late = C.late := by
 unfold RBx.grant
 split
 ·have h := rwantN_pres ({ C with sta := C.more t } : RBx) (C.nxt t) C.L.sw.length
  exact ⟨h.2.2.2.2.2.1, h.2.2.2.2.2.2⟩
 ·exact ⟨rfl, rfl⟩
theorem grantN_fl (C : RBx) (f : Fr) : ∀ k, (C.grantN f k).failed = C.failed /\ (C.grantN f k).late = C.late
 | 0 => ⟨rfl, rfl⟩
 | k + 1 => by
  obtain ⟨a, b⟩ := grantN_fl C f k
  obtain ⟨a', b'⟩ := grant_fl (C.grantN f k) f (C.waits.getD k 0)
  exact ⟨a'.trans a, b'.trans b⟩
theorem s4_late (C : RBx) (f : Fr) : (C.s4 f).late = (C.s1 f).late /\ (C.s4 f).failed = (C.s3 f).failed /\ (C.s2 f).failed = (C.s1 f).failed := by
 obtain ⟨a, b⟩ := grantN_fl (C.s3 f) f (C.s3 f).waits.length
 have h3 : (C.s3 f).late = (C.s2 f).late := (z56 (C.s2 f) f _).2.2.1
 have h2 := z27 (C.s1 f) f (C.s1 f).lines.length
 exact ⟨(b.trans h3).trans h2.2.2.2.1, a, h2.2.2.1⟩
theorem watch1_other (C : RBx) (f : Fr) {k s : Nat} (h : s ≠ k) : (C.watch1 f k).late.getD s 0 = C.late.getD s 0 /\ (C.watch1 f k).failed.getD s false = C.failed.getD s false := by
 unfold RBx.watch1
 split
 ·simp only
  exact ⟨by rw [z0h _ _ _ _ _ h, z0h _ _ _ _ _ h], z0h _ _ _ _ _ h⟩
 ·exact ⟨z0h _ _ _ _ _ h, rfl⟩
theorem held_same {C C' : RBx} (hl : C'.lines = C.lines) (hL : C'.L = C.L) (s : Nat) : C'.heldB s = C.heldB s := by
 unfold RBx.heldB RBx.lockedBy RBx.lockB RBx.flankB RBx.line
 rw [hl, hL]
theorem watchN_before (C : RBx) (f : Fr) (s : Nat) : ∀ k, k <= s -> (C.watchN f k).late.getD s 0 = C.late.getD s 0 /\ (C.watchN f k).failed.getD s false = C.failed.getD s false
 | 0, _ => ⟨rfl, rfl⟩
 | k + 1, hk => by
  obtain ⟨a, b⟩ := watchN_before C f s k (by omega)
  obtain ⟨a', b'⟩ := watch1_other (C.watchN f k) f (k := k) (s := s) (by omega)
  exact ⟨a'.trans a, b'.trans b⟩
theorem watchN_at (C : RBx) (f : Fr) {s : Nat} (hf : s < C.failed.length) (hd : s < C.late.length) : ∀ k, s < k →
  (C.watchN f k).late.getD s 0 = (if C.lateF f s = C.L.T then 0 else C.lateF f s) /\ (C.watchN f k).failed.getD s false = (C.failed.getD s false || decide (C.lateF f s = C.L.T))
 | 0, h => absurd h (Nat.not_lt_zero _)
 | k + 1, h => by
  by_cases e : s = k
  ·subst e
   obtain ⟨a, b⟩ := watchN_before C f s s (Nat.le_refl _)
   obtain ⟨p1, p2, p3, -, -, p6, p7⟩ := watchN_pres C f s
   show ((C.watchN f s).watch1 f s).late.getD s 0 = _ /\ ((C.watchN f s).watch1 f s).failed.getD s false = _
   have el : (C.watchN f s).lateF f s = C.lateF f s := by
    unfold RBx.lateF
    rw [a, b, p3, p1, held_same p2 p1]
   unfold RBx.watch1
   rw [el, p1]
   by_cases ht : C.lateF f s = C.L.T
   ·rw [if_pos ht, if_pos ht]
    simp only
    rw [z0d _ _ _ _ _ (by rw [List.length_set, p7]; exact hd), if_pos rfl, z0d _ _ _ _ _ (by rw [p6]; exact hf), if_pos rfl]
    simp [ht]
   ·rw [if_neg ht, if_neg ht]
    simp only
    rw [z0d _ _ _ _ _ (by rw [p7]; exact hd), if_pos rfl, b]
    simp [ht]
  ·obtain ⟨a, b⟩ := watchN_at C f hf hd k (by omega)
   obtain ⟨a', b'⟩ := watch1_other (C.watchN f k) f (k := k) (s := s) e
   exact ⟨a'.trans a, b'.trans b⟩
def Settled (C : RBx) (W : Wd) (x : Nat) : Prop := W.aim.getD x 0 = 0 /\ W.lie.getD x 0 = C.wanted.getD x 0 /\ C.late.getD x 0 = 0
def Moving (L : Lay) (C : RBx) (W : Wd) (x : Nat) : Prop := W.aim.getD x 0 = C.wanted.getD x 0 /\ C.late.getD x 0 + W.left.getD x 0 + 1 <= L.T /\ ∃ r, (C.line r).ph = 119 /\ L.wantsF r x ≠ 0
def Pend (L : Lay) (C : RBx) (W : Wd) (x : Nat) : Prop := W.aim.getD x 0 = 0 /\ C.late.getD x 0 = 0 /\ (∃ r, (C.line r).ph = 119 /\ L.wantsF r x ≠ 0) /\ W.takenB L x = false
def Lies (L : Lay) (C : RBx) (W : Wd) : Prop := ∀ r x, L.wantsF r x ≠ 0 -> ((C.line r).ph = 103 \/ ((C.line r).ph = 116 /\ C.lockB x r = true)) -> W.aim.getD x 0 = 0 /\ W.lie.getD x 0 = L.wantsF r x /\ C.wanted.getD x 0 = L.wantsF r x
def Behind (L : Lay) (C : RBx) (W : Wd) : Prop := ∀ r, PastIt L W (C.sta.getD (C.line r).train 0) (C.line r).train r (C.line r) -> (C.line r).gone + 1 = plen L r →
 W.takenB L (bef L r (C.line r).gone) = false /\ ∀ q, ((C.line q).ph = 103 \/ (C.line q).ph = 116) -> C.lockB (bef L r (C.line r).gone) q = false
structure WLen (L : Lay) (W : Wd) : Prop where
 d : W.done.length = L.tns.length
 h : W.head.length = L.tns.length
 t : W.tail.length = L.tns.length
 g : W.gone.length = L.tns.length
structure Play (L : Lay) (C : RBx) (W : Wd) : Prop where
 sim : ∃ B, Sim B C
 inv : Inv C
 eL : C.L = L
 wo : WantOK C
 kj : KJ C
 wt : WtOK C
 snd : L.sound C.sta = true
 tr : Trs L C W (fun _ => true)
 sl : SwLen L W
 sv : SwVal L W
 nf : ∀ x, C.failed.getD x false = false
 sw : ∀ x, L.sw.getD x false = true -> Settled C W x \/ Moving L C W x
 li : Lies L C W
 be : Behind L C W
 wl : WLen L W
 lb : ∀ x, W.left.getD x 0 <= 9
theorem rp_aim (W : Wd) (x : Nat) : (tkA (W.aim.getD x 0) (W.left.getD x 0) = 0 /\ rp (W.aim.getD x 0) (W.lie.getD x 0) (W.left.getD x 0) = tkL (W.aim.getD x 0) (W.lie.getD x 0) (W.left.getD x 0)) ∨
  (tkA (W.aim.getD x 0) (W.left.getD x 0) = W.aim.getD x 0 /\ W.aim.getD x 0 ≠ 0 /\ 0 < W.left.getD x 0 /\ rp (W.aim.getD x 0) (W.lie.getD x 0) (W.left.getD x 0) = 63) := by
 unfold tkA tkL rp
 by_cases h : W.aim.getD x 0 ≠ 0 /\ 0 < W.left.getD x 0
 ·right; rw [if_pos h, if_pos h]; exact ⟨rfl, h.1, h.2, rfl⟩
 ·left; rw [if_neg h, if_neg h, if_neg h]; exact ⟨rfl, rfl⟩
theorem broken_no {C : RBx} (h : ∀ x, C.failed.getD x false = false) (r : Nat) : C.broken r = false := by
 unfold RBx.broken
 rw [List.any_eq_false]
 intro x _
 unfold RBx.brokenB
 rw [h x]
 simp
theorem step_idle {C : RBx} (f : Fr) {r : Nat} (h : (C.line r).ph = 46) : C.step f r = C := by
 unfold RBx.step
 rw [if_neg (by omega), if_neg (by omega), if_neg (by omega), if_neg (by omega)]
theorem want_sw {L : Lay} (hT : LayT L) {r x : Nat} (hr : r < L.rts.length) (h : L.wantsF r x ≠ 0) : L.sw.getD x false = true := by
 unfold Lay.wantsF at h
 have hR := hT.ok r hr
 split at h
 ·rename_i v e
  obtain ⟨y, hy, e1, e2⟩ := z41 e
  have := (hR.ps y hy).2
  rw [e1, e2] at this
  rw [this]
  simpa using h
 ·rename_i e
  cases e2 : z1l (L.rt r).flank x with
  | none => rw [e2] at h; exact absurd rfl h
  | some v =>
   obtain ⟨y, hy, e3, e4⟩ := z41 e2
   have := (hR.fs y hy).2.1
   rw [e3] at this
   exact this
structure Cyc (L : Lay) (C : RBx) (W : Wd) (f : Fr) (V : Wd) : Prop where
 T : LayT L
 P : Play L C W
 S : Stgs C f
 oc : ∀ x, x < L.sw.length -> f.occ.getD x false = W.takenB L x
 rp : ∀ x, L.sw.getD x false = true -> f.rep.getD x 0 = rp (W.aim.getD x 0) (W.lie.getD x 0) (W.left.getD x 0)
 cm : ∀ j, j < f.cmds.size / 2 -> pk f.cmds (2 * j) = 114
 tk : ∀ x, L.sw.getD x false = true -> TickAt W V x
 st : SameT W V
theorem Cyc.rt {L : Lay} {C : RBx} {W V : Wd} {f : Fr} (h : Cyc L C W f V) {r : Nat} (hp : (C.line r).ph ≠ 46) : r < L.rts.length := by
 rw [<- h.P.eL, <- h.P.inv.ll]; exact z14 hp
theorem Cyc.late {L : Lay} {C : RBx} {W V : Wd} {f : Fr} (h : Cyc L C W f V) (x : Nat) (hx : x < L.sw.length) : (C.s1 f).late.getD x 0 = (if C.lateF f x = L.T then 0 else C.lateF f x) /\ (C.s1 f).failed.getD x false = decide (C.lateF f x = L.T) := by
 have eL := h.P.eL
 have := watchN_at C f (s := x) (by rw [h.P.inv.fl, eL]; exact hx) (by rw [h.P.inv.dl, eL]; exact hx) C.L.sw.length (by rw [eL]; exact hx)
 rw [h.P.nf x, Bool.false_or, eL] at this
 have e : C.s1 f = C.watchN f L.sw.length := by unfold RBx.s1 RBx.watch; rw [eL]
 rw [e]
 exact this
theorem Cyc.sw1 {L : Lay} {C : RBx} {W V : Wd} {f : Fr} (h : Cyc L C W f V) {x : Nat} (hx : L.sw.getD x false = true) : C.lateF f x < L.T /\ ((V.aim.getD x 0 = 0 /\ V.lie.getD x 0 = C.wanted.getD x 0 /\ C.lateF f x = 0) \/ (V.aim.getD x 0 = C.wanted.getD x 0 /\ C.lateF f x + V.left.getD x 0 + 1 <= L.T /\ f.rep.getD x 0 = 63 /\ ∃ r, (C.line r).ph = 119 /\ L.wantsF r x ≠ 0)) := by
 obtain ⟨t1, t2, t3⟩ := h.tk x hx
 have hr := h.rp x hx
 have hw := h.P.wo x (by rw [h.P.eL]; exact hx)
 have hT1 := h.T.T1
 have eL := h.P.eL
 rcases h.P.sw x hx with ⟨a1, a2, a3⟩ | ⟨a1, a2, r, a3, a4⟩
 ·have e1 : tkA (W.aim.getD x 0) (W.left.getD x 0) = 0 := by unfold tkA; rw [if_neg (by omega)]
  have e2 : tkL (W.aim.getD x 0) (W.lie.getD x 0) (W.left.getD x 0) = W.lie.getD x 0 := by unfold tkL; rw [if_neg (by omega), if_neg (by omega)]
  have e3 : Go.Proofs.YtkbpocecbcaiiabGreatDoor.rp (W.aim.getD x 0) (W.lie.getD x 0) (W.left.getD x 0) = W.lie.getD x 0 := by unfold Go.Proofs.YtkbpocecbcaiiabGreatDoor.rp; rw [if_neg (by omega), if_neg (by omega)]
  have hl : C.lateF f x = 0 := by
   unfold RBx.lateF
   rw [hr, e3, a2]
   simp
  exact ⟨by omega, .inl ⟨by rw [t1, e1], by rw [t2, e2, a2], hl⟩⟩
 ·have ha : W.aim.getD x 0 ≠ 0 := by omega
  by_cases h0 : 0 < W.left.getD x 0
  ·have e1 : tkA (W.aim.getD x 0) (W.left.getD x 0) = W.aim.getD x 0 := by unfold tkA; rw [if_pos ⟨ha, h0⟩]
   have e3 : Go.Proofs.YtkbpocecbcaiiabGreatDoor.rp (W.aim.getD x 0) (W.lie.getD x 0) (W.left.getD x 0) = 63 := by unfold Go.Proofs.YtkbpocecbcaiiabGreatDoor.rp; rw [if_pos ⟨ha, h0⟩]
   have e4 : tkF (W.aim.getD x 0) (W.left.getD x 0) = W.left.getD x 0 - 1 := by unfold tkF; rw [if_pos ⟨ha, h0⟩]
   have hl : C.lateF f x <= C.late.getD x 0 + 1 := by
    unfold RBx.lateF
    split <;> omega
   exact ⟨by omega, .inr ⟨by rw [t1, e1, a1], by rw [t3, e4]; omega, by rw [hr, e3], r, a3, a4⟩⟩
  ·have e1 : tkA (W.aim.getD x 0) (W.left.getD x 0) = 0 := by unfold tkA; rw [if_neg (by omega)]
   have e2 : tkL (W.aim.getD x 0) (W.lie.getD x 0) (W.left.getD x 0) = W.aim.getD x 0 := by unfold tkL; rw [if_neg (by omega), if_pos ha]
   have e3 : Go.Proofs.YtkbpocecbcaiiabGreatDoor.rp (W.aim.getD x 0) (W.lie.getD x 0) (W.left.getD x 0) = W.aim.getD x 0 := by unfold Go.Proofs.YtkbpocecbcaiiabGreatDoor.rp; rw [if_neg (by omega), if_pos ha]
   have hl : C.lateF f x = 0 := by
    unfold RBx.lateF
    rw [hr, e3, a1]
    simp
   exact ⟨by omega, .inl ⟨by rw [t1, e1], by rw [t2, e2, a1], hl⟩⟩
theorem Cyc.nf1 {L : Lay} {C : RBx} {W V : Wd} {f : Fr} (h : Cyc L C W f V) (x : Nat) : (C.s1 f).failed.getD x false = false := by
 have hlen : (C.s1 f).failed.length = L.sw.length := by rw [h.S.i1.fl, h.S.l1, h.P.eL]
 rcases Nat.lt_or_ge x L.sw.length with hx | hx
 ·rw [(h.late x hx).2]
  by_cases hs : L.sw.getD x false = true
  ·have := (h.sw1 hs).1
   simp; omega
  ·have hs' : L.sw.getD x false = false := by simpa using hs
   have : C.lateF f x = 0 := by
    unfold RBx.lateF
    rw [h.P.eL, hs']
    simp
   have := h.T.T1
   simp; omega
 ·rw [List.getD_eq_getElem?_getD, List.getElem?_eq_none (by omega)]; rfl
theorem Cyc.s2 {L : Lay} {C : RBx} {W V : Wd} {f : Fr} (h : Cyc L C W f V) (r : Nat) : ((C.line r).ph = 46 /\ (C.s2 f).line r = C.line r) \/ ((C.line r).ph ≠ 46 /\ StepT L W f C (C.sta.getD (C.line r).train 0) (C.line r).train r (C.line r) ((C.s2 f).line r)) := by
 have eL := h.P.eL
 rcases Nat.lt_or_ge r C.L.rts.length with hr | hr
 ·obtain ⟨e1, e2, e3, e4⟩ := s2_line h.S hr
  by_cases hp : (C.line r).ph = 46
  ·left
   refine ⟨hp, ?_⟩
   rw [e1, step_idle f (by rw [e2]; exact hp), e2]
  ·right
   refine ⟨hp, ?_⟩
   have hfl : ((C.s1 f).stepN f r).failed = (C.s1 f).failed := (z27 (C.s1 f) f r).2.2.1
   have := step_tr (C' := (C.s1 f).stepN f r) h.T h.P.inv eL h.P.tr h.oc e2 (e3.trans eL) e4 (broken_no (fun x => by rw [hfl]; exact h.nf1 x) r) hp
   rw [<- e1] at this
   unfold StepT at this ⊢
   rw [right_L e3, busy_L e3] at this
   exact this
 ·left
  have hz : ∀ D : RBx, D.lines.length <= r -> D.line r = RLn0 := fun D hD => by
   unfold RBx.line
   rw [List.getD_eq_getElem?_getD, List.getElem?_eq_none hD]; rfl
  have h1 := hz C (by rw [h.P.inv.ll]; exact hr)
  have h2 := hz (C.s2 f) (by rw [h.S.i2.ll, h.S.l2]; exact hr)
  rw [h1, h2]
  exact ⟨rfl, rfl⟩
theorem StepT.tr {L : Lay} {W : Wd} {f : Fr} {C : RBx} {s t r : Nat} {x y : RLn} (h : StepT L W f C s t r x y) (hy : y.ph ≠ 46) : y.train = t /\ TrL L W s t r y false := by
 rcases h with h | h | h | h
 ·exact ⟨h.2.2.1, .inl h.2.1⟩
 ·exact ⟨h.2.2, .inr (.inr (.inl h.2.1))⟩
 ·rw [h.2] at hy; exact absurd rfl hy
 ·exact ⟨h.2.2.1, .inr (.inr (.inr h.2.1))⟩
theorem TrL.ph {L : Lay} {W : Wd} {s t r : Nat} {x : RLn} {e : Bool} (h : TrL L W s t r x e) : x.ph = 119 \/ x.ph = 103 \/ x.ph = 116 := by
 rcases h with h | h | h | h
 ·omega
 ·omega
 ·exact .inr (.inr h.2.ph)
 ·exact .inr (.inr h.ph)
theorem Cyc.sta2 {L : Lay} {C : RBx} {W V : Wd} {f : Fr} (h : Cyc L C W f V) (t : Nat) : (C.s2 f).sta.getD t 0 = C.sta.getD t 0 := by
 have h1s : (C.s1 f).sta = C.sta := (z0l C f C.L.sw.length).2.2.2.1
 have h1l : ∀ r, (C.s1 f).line r = C.line r := fun r => by unfold RBx.line; exact congrArg (fun l => l.getD r RLn0) (z0l C f C.L.sw.length).2.2.1
 have hs := stepN_sta h.S.i1 f t C.L.rts.length (by rw [h.S.l1]; exact Nat.le_refl _)
 rw [<- h.S.n2, h1s] at hs
 rcases hs with hs | ⟨r, -, p, -⟩
 ·exact hs
 ·rw [h1l] at p
  have := (h.P.tr.ln r (by omega)).ph
  omega
theorem Cyc.sub2 {L : Lay} {C : RBx} {W V : Wd} {f : Fr} (h : Cyc L C W f V) {s r : Nat} (hl : (C.s2 f).lockB s r = true) : C.lockB s r = true := by
 have h1l : (C.s1 f).line r = C.line r := by unfold RBx.line; exact congrArg (fun l => l.getD r RLn0) (z0l C f C.L.sw.length).2.2.1
 have hrl : r < C.L.rts.length := by
  have := lock_lt hl
  rw [h.S.i2.ll, h.S.l2] at this
  exact this
 obtain ⟨e1, e2, e3, e4⟩ := s2_line h.S hrl
 refine lock_sub (C := C) (C' := C.s2 f) h.S.l2 ?_ hl
 have := step_sub (C := (C.s1 f).stepN f r) f r r
 rw [<- e1, e2] at this
 exact this
theorem Cyc.tr2 {L : Lay} {C : RBx} {W V : Wd} {f : Fr} (h : Cyc L C W f V) : Trs L (C.s2 f) W (fun _ => false) := by
 have hT := h.P.tr
 refine ⟨fun r hr => ?_, fun t ht hn => ?_, hT.gn, hT.dl, hT.hb, fun r s t hl ht ho => ?_, hT.po⟩
 ·rcases h.s2 r with ⟨a, b⟩ | ⟨a, b⟩
  ·rw [b] at hr; exact absurd a hr
  ·obtain ⟨c1, c2⟩ := b.tr hr
   rw [h.sta2, c1]
   exact c2
 ·by_cases hx : ∀ r, (C.line r).ph ≠ 46 -> (C.line r).train ≠ t
  ·rw [h.sta2]; exact hT.no t ht hx
  ·have : ∃ r, (C.line r).ph ≠ 46 /\ (C.line r).train = t := by
    apply Classical.byContradiction
    intro hc
    exact hx (fun r hr e => hc ⟨r, hr, e⟩)
   obtain ⟨r, hr, e⟩ := this
   rcases h.s2 r with ⟨a, b⟩ | ⟨a, b⟩
   ·exact absurd a hr
   ·by_cases hy : ((C.s2 f).line r).ph = 46
    ·rw [h.sta2]
     rw [e] at b
     rcases b with b | b | b | b
     ·have := b.2.1.1; omega
     ·have := b.2.1.2.ph; omega
     ·exact ⟨b.1.es, b.1.h⟩
     ·have := b.2.1.ph; omega
    ·exact absurd ((b.tr hy).1.trans e) (hn r hy)
 ·have hc := h.sub2 hl
  have := hT.A r s t hc ht ho
  rw [this]
  have hp := (lock_ix h.P.eL hc).1
  have hp2 : ((C.s2 f).line r).ph ≠ 46 := (lock_ix (h.S.l2.trans h.P.eL) hl).1
  rcases h.s2 r with ⟨a, b⟩ | ⟨a, b⟩
  ·exact absurd a hp
  ·exact (b.tr hp2).1.symm
theorem ask_keep (C : RBx) (t : Nat) : (C.ask t).lines = C.lines /\ (C.ask t).failed = C.failed /\ (C.ask t).wanted = C.wanted /\ (C.ask t).late = C.late /\ (C.ask t).sta = C.sta /\ (C.ask t).L = C.L := by
 unfold RBx.ask
 split <;> exact ⟨rfl, rfl, rfl, rfl, rfl, rfl⟩
theorem doN_ask (C : RBx) (f : Fr) : ∀ k, (∀ j, j < k -> pk f.cmds (2 * j) = 114) -> (C.doN f k).lines = C.lines /\ (C.doN f k).failed = C.failed /\ (C.doN f k).wanted = C.wanted /\ (C.doN f k).late = C.late /\ (C.doN f k).sta = C.sta /\ (C.doN f k).L = C.L
 | 0, _ => ⟨rfl, rfl, rfl, rfl, rfl, rfl⟩
 | k + 1, h => by
  obtain ⟨a1, a2, a3, a4, a5, a6⟩ := doN_ask C f k (fun j hj => h j (by omega))
  have e : C.doN f (k + 1) = (C.doN f k).ask (pk f.cmds (2 * k + 1) - 49) := by
   show (C.doN f k).doC f (pk f.cmds (2 * k)) (pk f.cmds (2 * k + 1)) = _
   unfold RBx.doC
   rw [if_pos (h k (by omega))]
  obtain ⟨b1, b2, b3, b4, b5, b6⟩ := ask_keep (C.doN f k) (pk f.cmds (2 * k + 1) - 49)
  rw [e]
  exact ⟨b1.trans a1, b2.trans a2, b3.trans a3, b4.trans a4, b5.trans a5, b6.trans a6⟩
theorem Trs.box {L : Lay} {C C' : RBx} {W : Wd} {e : Nat -> Bool} (h : Trs L C W e) (h1 : C'.lines = C.lines) (h2 : C'.sta = C.sta) (h3 : C'.L = C.L) : Trs L C' W e := by
 have hl : ∀ r, C'.line r = C.line r := fun r => by unfold RBx.line; rw [h1]
 have hk : ∀ s r, C'.lockB s r = C.lockB s r := fun s r => by unfold RBx.lockB; rw [hl, h3]
 refine ⟨fun r hr => ?_, fun t ht hn => ?_, h.gn, h.dl, h.hb, fun r s t hx ht ho => ?_, h.po⟩
 ·rw [hl] at hr ⊢
  rw [h2]
  exact h.ln r hr
 ·rw [h2]
  exact h.no t ht (fun r hr => by have := hn r; rw [hl] at this; exact this hr)
 ·rw [hl]
  exact h.A r s t (by rw [<- hk]; exact hx) ht ho
structure GI (L : Lay) (G : RBx) (W V : Wd) : Prop where
 tr : Trs L G W (fun _ => false)
 sw : ∀ x, L.sw.getD x false = true -> Settled G V x \/ Moving L G V x \/ Pend L G V x
 li : Lies L G V
 eL : G.L = L
theorem Cyc.s3k {L : Lay} {C : RBx} {W V : Wd} {f : Fr} (h : Cyc L C W f V) : (C.s3 f).lines = (C.s2 f).lines /\ (C.s3 f).failed = (C.s1 f).failed /\ (C.s3 f).wanted = C.wanted /\ (C.s3 f).late = (C.s1 f).late /\ (C.s3 f).sta = (C.s2 f).sta /\ (C.s3 f).L = L := by
 obtain ⟨a1, a2, a3, a4, a5, a6⟩ := doN_ask (C.s2 f) f (f.cmds.size / 2) h.cm
 obtain ⟨b1, b2, b3, b4, b5⟩ := z27 (C.s1 f) f (C.s1 f).lines.length
 have w1 : (C.s1 f).wanted = C.wanted := (z0l C f C.L.sw.length).1
 exact ⟨a1, a2.trans b3, a3.trans (b1.trans w1), a4.trans b4, a5, h.S.l3.trans h.P.eL⟩
theorem Cyc.line3 {L : Lay} {C : RBx} {W V : Wd} {f : Fr} (h : Cyc L C W f V) (r : Nat) : (C.s3 f).line r = (C.s2 f).line r := by unfold RBx.line; rw [h.s3k.1]
theorem right_rep {C : RBx} {f : Fr} {r x : Nat} (h : C.right f r = true) (hx : x < C.L.sw.length) (hw : C.L.wantsF r x ≠ 0) : f.rep.getD x 0 = C.L.wantsF r x := by
 unfold RBx.right at h
 rw [List.all_eq_true] at h
 have := h x (List.mem_range.2 hx)
 unfold RBx.rightB at this
 simp only [Bool.or_eq_true, beq_iff_eq] at this
 omega
theorem Cyc.green {L : Lay} {C : RBx} {W V : Wd} {f : Fr} (h : Cyc L C W f V) {r x : Nat} (hg : ((C.s2 f).line r).ph = 103) (hw : L.wantsF r x ≠ 0) : f.rep.getD x 0 = L.wantsF r x /\ L.sw.getD x false = true := by
 have eL := h.P.eL
 have hrl : r < C.L.rts.length := by
  have := z14 (C := C.s2 f) (r := r) (by omega)
  rw [h.S.i2.ll, h.S.l2] at this
  exact this
 obtain ⟨e1, e2, e3, e4⟩ := s2_line h.S hrl
 rw [e1] at hg
 have hr := (step_green f e4 hg).1
 rw [right_L e3] at hr
 have hs := want_sw h.T (by rw [<- eL]; exact hrl) hw
 refine ⟨?_, hs⟩
 have := right_rep hr (x := x) (by rw [eL]; exact sw_lt hs) (by rw [eL]; exact hw)
 rw [eL] at this
 exact this
theorem Cyc.gi0 {L : Lay} {C : RBx} {W V : Wd} {f : Fr} (h : Cyc L C W f V) : GI L (C.s3 f) W V := by
 obtain ⟨k1, k2, k3, k4, k5, k6⟩ := h.s3k
 have eL := h.P.eL
 have hsg := wantsF_ok h.T.sg
 refine ⟨h.tr2.box k1 k5 (k6.trans (h.S.l2.trans eL).symm), fun x hx => ?_, fun r x hw hp => ?_, k6⟩
 ·obtain ⟨a1, a2⟩ := h.sw1 hx
  have hl := (h.late x (sw_lt hx)).1
  rw [if_neg (by omega)] at hl
  rcases a2 with ⟨b1, b2, b3⟩ | ⟨b1, b2, b3, r, b4, b5⟩
  ·exact .inl ⟨b1, by rw [k3]; exact b2, by rw [k4, hl]; exact b3⟩
  ·refine .inr (.inl ⟨by rw [k3]; exact b1, by rw [k4, hl]; exact b2, r, ?_, b5⟩)
   rw [h.line3]
   rcases h.s2 r with ⟨c1, -⟩ | ⟨-, c2⟩
   ·omega
   ·rcases c2 with c2 | c2 | c2 | c2
    ·rcases c2.2.1.1 with e | e
     ·exact e
     ·exfalso
      have := (h.green e b5).1
      have := hsg r x
      omega
    ·rcases c2.1 with c3 | c3
     ·have := c3.1; omega
     ·have := c3.2.ph; omega
    ·have := c2.1.ph; omega
    ·have := c2.1.ph; omega
 ·rw [h.line3] at hp
  have hwt : WtOK (C.s2 f) := by
   unfold RBx.s2
   refine WtOK.stepN ?_ f _
   have w1 := z0l C f C.L.sw.length
   have hl1 : ∀ r, (C.s1 f).line r = C.line r := fun r => by unfold RBx.line; exact congrArg (fun l => l.getD r RLn0) w1.2.2.1
   exact h.P.wt.sub w1.1 w1.2.1 (fun r hr => by rw [hl1] at hr; exact hr)
  have hw2 : (C.s2 f).wanted = C.wanted := (z27 (C.s1 f) f (C.s1 f).lines.length).1.trans (z0l C f C.L.sw.length).1
  rcases hp with hp | ⟨hp, hlk⟩
  ·obtain ⟨g1, g2⟩ := h.green hp hw
   obtain ⟨t1, t2, t3⟩ := h.tk x g2
   have hr := h.rp x g2
   have hwt2 := hwt r (.inr hp) x (by rw [h.S.l2, eL]; exact hw)
   rw [h.S.l2, eL, hw2] at hwt2
   rcases rp_aim W x with ⟨p1, p2⟩ | ⟨-, -, -, p4⟩
   ·exact ⟨by rw [t1, p1], by rw [t2, <- p2, <- hr, g1], by rw [k3]; exact hwt2⟩
   ·exfalso
    have := hsg r x
    omega
  ·have hlk2 : (C.s2 f).lockB x r = true := by
    unfold RBx.lockB at hlk ⊢
    rw [h.line3, k6] at hlk
    rw [h.S.l2, eL]
    exact hlk
   have hlC := h.sub2 hlk2
   have hCp : (C.line r).ph = 103 \/ (C.line r).ph = 116 := by
    rcases h.s2 r with ⟨c1, c2⟩ | ⟨-, c2⟩
    ·rw [c2] at hp; omega
    ·rcases c2 with c2 | c2 | c2 | c2
     ·have := c2.2.1.1; omega
     ·rcases c2.1 with c3 | c3
      ·exact .inl c3.1
      ·exact .inr c3.2.ph
     ·exact .inr c2.1.ph
     ·exact .inr c2.1.ph
   have hL := h.P.li r x hw (by
    rcases hCp with e | e
    ·exact .inl e
    ·exact .inr ⟨e, hlC⟩)
   have hs := want_sw h.T (h.rt (by omega)) hw
   obtain ⟨t1, t2, t3⟩ := h.tk x hs
   refine ⟨?_, ?_, by rw [k3]; exact hL.2.2⟩
   ·rw [t1]; unfold tkA; rw [if_neg (by omega)]
   ·rw [t2]; unfold tkL; rw [if_neg (by omega), if_neg (by omega)]; exact hL.2.1
theorem grant_at {G : RBx} {f : Fr} {t : Nat} (hg : G.grantB f t = true) (hn : G.nxt t < G.lines.length) (r : Nat) : (G.grant f t).line r = if r = G.nxt t then RLnW t else G.line r := by
 unfold RBx.grant
 rw [if_pos hg]
 unfold RBx.line
 rw [z3h, z0d _ _ _ _ _ hn]
theorem set_no {G : RBx} {t : Nat} (h : G.isSet t = false) (r : Nat) (hp : (G.line r).ph ≠ 46) : (G.line r).train ≠ t := by
 unfold RBx.isSet at h
 rw [List.any_eq_false] at h
 have := h r (List.mem_range.2 (z14 hp))
 unfold RBx.setB at this
 simp only [Bool.and_eq_true, bne_iff_ne, beq_iff_eq, not_and] at this
 exact this hp
theorem GI.grant {L : Lay} {G : RBx} {W V : Wd} {f : Fr} {t : Nat} {q : List Nat} (hT : LayT L) (h : GI L G W V) (hi : Inv { G with waits := q }) (hoc : ∀ x, x < L.sw.length -> f.occ.getD x false = W.takenB L x) (hs : SameT W V) (ht : t < L.tns.length) (hj : G.sta.getD t 0 < (L.tn t).jny.length) : GI L (G.grant f t) W V := by
 have eL := h.eL
 by_cases hg : G.grantB f t = true
 case neg =>
  have e : G.grant f t = G := by unfold RBx.grant; rw [if_neg hg]
  rw [e]; exact h
 have hll : G.lines.length = L.rts.length := by have := hi.ll; rw [<- eL]; exact this
 have hst : G.sta.length = L.tns.length := by have := hi.st; rw [<- eL]; exact this
 have hne : G.nxt t = (L.tn t).jny.getD (G.sta.getD t 0) 0 := by unfold RBx.nxt; rw [eL]
 have hnl : G.nxt t < L.rts.length := by rw [hne]; exact hT.jr t ht _ hj
 have hln := grant_at hg (by rw [hll]; exact hnl)
 have hfree := z4g hg
 have hse : G.isSet t = false := by
  unfold RBx.grantB at hg
  simp only [Bool.and_eq_true, Bool.not_eq_true'] at hg
  exact hg.1.1
 have hidle : (G.line (G.nxt t)).ph = 46 := by
  apply Classical.byContradiction
  intro hp
  obtain ⟨x, hx1, hx2, hx3⟩ := set_lock hi (r := G.nxt t) (by show G.nxt t < G.L.rts.length; rw [eL]; exact hnl) hp
  have hno := z3j (z4v hfree hx1 hx2).1 (G.nxt t)
  have hyes : G.lockB x (G.nxt t) = true := hx3
  rw [hyes] at hno
  cases hno
 have hsta : ∀ u, (G.grant f t).sta.getD u 0 = if u = t then G.sta.getD t 0 + 1 else G.sta.getD u 0 := fun u => by
  rw [z4w hg]
  unfold RBx.more
  rw [z0d _ _ _ _ _ (by rw [hst]; exact ht)]
 have hwan := fun x => z59 (by have := hi.wl; exact this) hg x
 have hfl := grant_fl G f t
 have eL' : (G.grant f t).L = L := (grant_L G f t).trans eL
 obtain ⟨n1, n2⟩ := h.tr.no t ht (set_no hse)
 have hlo : ∀ s r, r ≠ G.nxt t -> (G.grant f t).lockB s r = G.lockB s r := fun s r hr => by
  unfold RBx.lockB
  rw [hln, if_neg hr, eL', eL]
 have h119 : ∀ r, (G.line r).ph ≠ 46 -> (G.grant f t).line r = G.line r := fun r hr => by
  rw [hln, if_neg (fun e => hr (by rw [e]; exact hidle))]
 have hgo : ∀ r, r < G.L.rts.length -> (G.line r).ph ≠ 116 -> (G.line r).gone = 0 := fun r hr hp => (hi.li r hr).g0 hp
 have hheld : ∀ {r x}, WtP (G.line r).ph -> L.wantsF r x ≠ 0 -> G.heldB x = true := fun {r x} hp hw => held_of hgo hi.ll hp (by rw [eL]; exact hw)
 /- wanted changes only where nothing holds -/
 have hwc : ∀ x, (G.grant f t).wanted.getD x 0 = G.wanted.getD x 0 \/ (G.heldB x = false /\ f.occ.getD x false = false /\ x < L.sw.length /\ L.wantsF (G.nxt t) x ≠ 0) := fun x => by
  rw [hwan x]
  by_cases hc : x < G.L.sw.length /\ G.L.wantsF (G.nxt t) x ≠ 0
  ·rw [if_pos hc]
   rcases free_want hfree hc.1 hc.2 with e | ⟨e1, e2⟩
   ·exact .inl e.symm
   ·exact .inr ⟨e1, e2, by rw [<- eL]; exact hc.1, by rw [<- eL]; exact hc.2⟩
  ·rw [if_neg hc]; exact .inl rfl
 refine ⟨⟨fun r hr => ?_, fun u hu hn => ?_, h.tr.gn, h.tr.dl, h.tr.hb, fun r s u hl hu ho => ?_, h.tr.po⟩, fun x hx => ?_, fun r x hw hp => ?_, eL'⟩
 ·by_cases e : r = G.nxt t
  ·rw [hln r, if_pos e]
   show TrL L W ((G.grant f t).sta.getD t 0) t r (RLnW t) _
   rw [hsta, if_pos rfl]
   refine .inl ⟨.inl rfl, ⟨by omega, by omega, ?_⟩, n2⟩
   unfold Wd.rt
   rw [<- n1, e, hne]
  ·rw [hln r, if_neg e] at hr ⊢
   rw [hsta, if_neg (set_no hse r hr)]
   exact h.tr.ln r hr
 ·have hut : u ≠ t := fun e => by
   have := hn (G.nxt t) (by rw [hln, if_pos rfl]; show (119 : Nat) ≠ 46; decide)
   rw [hln, if_pos rfl] at this
   exact this e.symm
  rw [hsta, if_neg hut]
  exact h.tr.no u hu (fun r hr => by
   have := hn r
   rw [h119 r hr] at this
   exact this hr)
 ·by_cases e : r = G.nxt t
  ·exfalso
   obtain ⟨-, i, h1, h2, h3⟩ := lock_ix eL' hl
   rw [e] at h2 h3
   have hm : s ∈ secs (G.L.rt (G.nxt t)).path := by rw [<- h3, eL]; exact psec_mem h2
   have hsl : s < L.sw.length := by rw [<- h3]; exact psec_lt hT hnl h2
   have := (z4v hfree (s := s) (by rw [eL]; exact hsl) hm).2
   rw [hoc s hsl] at this
   have h5 : W.takenB L s = true := z28.2 ⟨u, hu, ho⟩
   rw [h5] at this
   cases this
  ·rw [hlo s r e] at hl
   rw [hln, if_neg e]
   exact h.tr.A r s u hl hu ho
 ·have hla : (G.grant f t).late.getD x 0 = G.late.getD x 0 := by rw [hfl.2]
  have mv : ∀ r, (G.line r).ph = 119 -> ((G.grant f t).line r).ph = 119 := fun r hr => by rw [h119 r (by omega)]; exact hr
  rcases hwc x with hsame | ⟨c1, c2, c3, c4⟩
  ·rcases h.sw x hx with ⟨a1, a2, a3⟩ | ⟨a1, a2, r, a3, a4⟩ | ⟨a1, a2, ⟨r, a3, a4⟩, a5⟩
   ·exact .inl ⟨a1, by rw [hsame]; exact a2, by rw [hla]; exact a3⟩
   ·exact .inr (.inl ⟨by rw [hsame]; exact a1, by rw [hla]; exact a2, r, mv r a3, a4⟩)
   ·exact .inr (.inr ⟨a1, by rw [hla]; exact a2, ⟨r, mv r a3, a4⟩, a5⟩)
  ·right; right
   rcases h.sw x hx with ⟨a1, a2, a3⟩ | ⟨a1, a2, r, a3, a4⟩ | ⟨a1, a2, ⟨r, a3, a4⟩, a5⟩
   ·refine ⟨a1, by rw [hla]; exact a3, ⟨G.nxt t, by rw [hln, if_pos rfl]; rfl, c4⟩, ?_⟩
    rw [hs.taken, <- hoc x c3]; exact c2
   ·rw [hheld (.inl a3) a4] at c1; cases c1
   ·rw [hheld (.inl a3) a4] at c1; cases c1
 ·have hrn : r ≠ G.nxt t := fun e => by
   rw [hln, if_pos e] at hp
   rcases hp with hp | ⟨hp, -⟩ <;> cases hp
  rw [hln, if_neg hrn, hlo x r hrn] at hp
  obtain ⟨a1, a2, a3⟩ := h.li r x hw hp
  refine ⟨a1, a2, ?_⟩
  rcases hwc x with hsame | ⟨c1, -⟩
  ·rw [hsame]; exact a3
  ·exfalso
   rcases hp with hp | ⟨-, hp⟩
   ·rw [hheld (.inr hp) hw] at c1; cases c1
   ·have hls : (G.lockedBy x).isSome = true := by
     cases hc : G.lockedBy x with
     | some _ => rfl
     | none => have := z3j hc r; rw [hp] at this; cases this
    unfold RBx.heldB at c1
    rw [hls, Bool.true_or] at c1
    cases c1
theorem Cyc.giN {L : Lay} {C : RBx} {W V : Wd} {f : Fr} (h : Cyc L C W f V) : ∀ k, k <= (C.s3 f).waits.length -> GI L ((C.s3 f).grantN f k) W V
 | 0, _ => h.gi0
 | k + 1, hk => by
  have ih := h.giN k (by omega)
  have hi := h.S.g k (by omega)
  have hm : (C.s3 f).waits.getD k 0 ∈ (C.s3 f).leftN f k ++ (C.s3 f).waits.drop k := by
   rw [z05 (by omega)]
   exact List.mem_append_right _ (by rw [List.mem_iff_getElem]; exact ⟨0, by rw [List.length_drop]; omega, by rw [List.getElem_drop]; simp⟩)
  obtain ⟨w1, w2⟩ := hi.wt _ hm
  have eLk : ((C.s3 f).grantN f k).L = L := ih.eL
  show GI L (((C.s3 f).grantN f k).grant f ((C.s3 f).waits.getD k 0)) W V
  refine ih.grant h.T hi h.oc h.st ?_ ?_
  ·have w1' : (C.s3 f).waits.getD k 0 < ((C.s3 f).grantN f k).L.tns.length := w1
   rw [eLk] at w1'; exact w1'
  ·have w2' : ((C.s3 f).grantN f k).sta.getD ((C.s3 f).waits.getD k 0) 0 < (((C.s3 f).grantN f k).L.tn ((C.s3 f).waits.getD k 0)).jny.length := w2
   rw [eLk] at w2'; exact w2'
theorem Cyc.gi4 {L : Lay} {C : RBx} {W V : Wd} {f : Fr} (h : Cyc L C W f V) : GI L (C.s4 f) W V := by
 have g := h.giN _ (Nat.le_refl _)
 exact ⟨g.tr.box rfl rfl rfl, g.sw, g.li, g.eL⟩
theorem turn1_len {L : Lay} {W : Wd} (h : SwLen L W) (x m slow : Nat) : SwLen L (W.turn1 x m slow) := by
 unfold Wd.turn1
 split
 ·exact h
 ·exact ⟨h.l, by simp [h.a], by simp [h.f]⟩
theorem turnN_len {L : Lay} {W : Wd} (h : SwLen L W) (mv : ByteArray) (slow : Nat) : ∀ k, SwLen L (W.turnN L mv slow k)
 | 0 => h
 | k + 1 => turn1_len (turnN_len h mv slow k) _ _ _
def TurnAt (W V : Wd) (x m slow : Nat) : Prop := V.lie.getD x 0 = W.lie.getD x 0 /\ (((m = 46 \/ m = W.aim.getD x 0) /\ V.aim.getD x 0 = W.aim.getD x 0 /\ V.left.getD x 0 = W.left.getD x 0) \/ (¬ (m = 46 \/ m = W.aim.getD x 0) /\ V.aim.getD x 0 = m /\ V.left.getD x 0 = slow))
theorem turn1_at {L : Lay} {W : Wd} (h : SwLen L W) {x : Nat} (hx : x < L.sw.length) (m slow : Nat) : TurnAt W (W.turn1 x m slow) x m slow := by
 unfold Wd.turn1 TurnAt
 by_cases c : m = 46 \/ m = W.aim.getD x 0
 ·rw [if_pos c]
  exact ⟨rfl, .inl ⟨c, rfl, rfl⟩⟩
 ·rw [if_neg c]
  refine ⟨rfl, .inr ⟨c, ?_, ?_⟩⟩
  ·show (W.aim.set x m).getD x 0 = _
   rw [z0d _ _ _ _ _ (by rw [h.a]; exact hx), if_pos rfl]
  ·show (W.left.set x slow).getD x 0 = _
   rw [z0d _ _ _ _ _ (by rw [h.f]; exact hx), if_pos rfl]
theorem turn1_oth (W : Wd) {x y : Nat} (m slow : Nat) (hx : x ≠ y) : SameAt W (W.turn1 y m slow) x := by
 unfold Wd.turn1 SameAt
 split
 ·exact ⟨rfl, rfl, rfl⟩
 ·exact ⟨z0h _ _ _ _ _ hx, rfl, z0h _ _ _ _ _ hx⟩
theorem turnN_at {L : Lay} {W : Wd} (h : SwLen L W) (mv : ByteArray) (slow x : Nat) : ∀ k, k <= (z03 0 L.sw).length -> ((∀ j (hj : j < (z03 0 L.sw).length), j < k -> (z03 0 L.sw)[j] ≠ x) -> SameAt W (W.turnN L mv slow k) x) /\ ∀ j (hj : j < (z03 0 L.sw).length), j < k -> (z03 0 L.sw)[j] = x -> TurnAt W (W.turnN L mv slow k) x (pk mv j) slow
 | 0, _ => ⟨fun _ => ⟨rfl, rfl, rfl⟩, fun j _ hj => absurd hj (Nat.not_lt_zero _)⟩
 | k + 1, hk => by
  obtain ⟨i1, i2⟩ := turnN_at h mv slow x k (by omega)
  have hkl : k < (z03 0 L.sw).length := hk
  have e : W.turnN L mv slow (k + 1) = (W.turnN L mv slow k).turn1 (z03 0 L.sw)[k] (pk mv k) slow := by
   show (W.turnN L mv slow k).turn1 ((z03 0 L.sw).getD k 0) (pk mv k) slow = _
   rw [z05 hkl]
  rw [e]
  refine ⟨fun hn => ?_, fun j hj hjk ej => ?_⟩
  ·obtain ⟨a1, a2, a3⟩ := i1 (fun j hj hjk => hn j hj (by omega))
   obtain ⟨b1, b2, b3⟩ := turn1_oth (W.turnN L mv slow k) (x := x) (pk mv k) slow (fun ee => hn k hkl (by omega) ee.symm)
   exact ⟨b1.trans a1, b2.trans a2, b3.trans a3⟩
  ·by_cases hjk2 : j = k
   ·subst hjk2
    subst ej
    obtain ⟨a1, a2, a3⟩ := i1 (fun i hi hik ee => by have := pts_inj hi hj ee; omega)
    have hb := turn1_at (turnN_len h mv slow j) (x := (z03 0 L.sw)[j]) (by have := (pts_get L.sw 0 j hj).2.1; omega) (pk mv j) slow
    unfold TurnAt at hb ⊢
    rw [a1, a2, a3] at hb
    exact hb
   ·have hi := i2 j hj (by omega) ej
    obtain ⟨b1, b2, b3⟩ := turn1_oth (W.turnN L mv slow k) (x := x) (y := (z03 0 L.sw)[k]) (pk mv k) slow (fun ee => hjk2 (pts_inj hj hkl (ej.trans ee)))
    unfold TurnAt at hi ⊢
    rw [b1, b2, b3]
    exact hi
structure Mid (L : Lay) (C4 : RBx) (Wt : Wd) : Prop where
 tr : Trs L C4 Wt (fun _ => false)
 sl : SwLen L Wt
 sv : SwVal L Wt
 sw : ∀ x, L.sw.getD x false = true -> Settled C4 Wt x \/ Moving L C4 Wt x
 li : Lies L C4 Wt
 lb : ∀ x, Wt.left.getD x 0 <= 9
theorem move_no {C : RBx} {f : Fr} {x : Nat} (h : f.rep.getD x 0 = C.wanted.getD x 0) : C.moveF f x = 46 := by
 unfold RBx.moveF
 rw [if_neg]
 intro hc
 obtain ⟨r, -, hr⟩ := List.any_eq_true.1 hc
 unfold RBx.moveB at hr
 rw [h] at hr
 simp at hr
theorem move_or (C : RBx) (f : Fr) (x : Nat) : C.moveF f x = 46 \/ (C.moveF f x = C.wanted.getD x 0 /\ f.occ.getD x false = false) := by
 unfold RBx.moveF
 by_cases h : (List.range C.lines.length).any (C.moveB f x) = true
 ·rw [if_pos h]
  obtain ⟨r, -, hr⟩ := List.any_eq_true.1 h
  unfold RBx.moveB at hr
  simp only [Bool.and_eq_true, Bool.not_eq_true'] at hr
  exact .inr ⟨rfl, hr.1.1.2⟩
 ·rw [if_neg h]; exact .inl rfl
theorem move_yes {C : RBx} {f : Fr} {x r : Nat} (h1 : (C.line r).ph = 119) (h2 : C.L.wantsF r x ≠ 0) (h3 : f.occ.getD x false = false) (h4 : C.failed.getD x false = false) (h5 : f.rep.getD x 0 ≠ C.wanted.getD x 0) : C.moveF f x = C.wanted.getD x 0 := by
 unfold RBx.moveF
 rw [if_pos]
 rw [List.any_eq_true]
 refine ⟨r, List.mem_range.2 (z14 (by omega)), ?_⟩
 unfold RBx.moveB
 rw [h1, h3, h4]
 simpa using ⟨h2, h5⟩
theorem Cyc.mid {L : Lay} {C : RBx} {W V Wt : Wd} {f : Fr} {slow : Nat} (h : Cyc L C W f V) (hsl : slow < L.T) (hT9 : L.T <= 9) (hlb : ∀ x, V.left.getD x 0 <= 9) (hs : SameT V Wt) (hlW : SwLen L Wt) (hwo : WantOK (C.s4 f))
  (htu : ∀ x, L.sw.getD x false = true -> TurnAt V Wt x ((C.s4 f).moveF f x) slow) (hno : ∀ x, L.sw.getD x false = false -> Wt.left.getD x 0 = V.left.getD x 0) : Mid L (C.s4 f) Wt := by
 have g := h.gi4
 have eL := g.eL
 have hnf : ∀ x, (C.s4 f).failed.getD x false = false := fun x => by
  rw [(s4_late C f).2.1, h.s3k.2.1]; exact h.nf1 x
 have hwoL : ∀ x, L.sw.getD x false = true -> (C.s4 f).wanted.getD x 0 = 43 \/ (C.s4 f).wanted.getD x 0 = 45 := fun x hx => hwo x (by rw [eL]; exact hx)
 have hrep : ∀ x, L.sw.getD x false = true -> (V.aim.getD x 0 = 0 -> f.rep.getD x 0 = V.lie.getD x 0) := fun x hx h0 => by
  obtain ⟨t1, t2, t3⟩ := h.tk x hx
  rw [h.rp x hx]
  rcases rp_aim W x with ⟨p1, p2⟩ | ⟨p1, p2, -, -⟩
  ·rw [p2, t2]
  ·exfalso; rw [t1, p1] at h0; exact p2 h0
 have hsv : SwVal L V := by
  refine ⟨fun x hx => ?_, fun x hx => ?_⟩
  ·rw [(h.tk x hx).2.1]
   have h1 := h.P.sv.lie x hx
   have h2 := h.P.sv.aim x hx
   unfold tkL
   split
   ·exact h1
   ·split
    ·omega
    ·exact h1
  ·rw [(h.tk x hx).1]
   have h2 := h.P.sv.aim x hx
   unfold tkA
   split
   ·exact h2
   ·exact .inl rfl
 /- where the switch lies as it is wanted, nothing is commanded -/
 have hkeep : ∀ x, L.sw.getD x false = true -> V.aim.getD x 0 = 0 -> V.lie.getD x 0 = (C.s4 f).wanted.getD x 0 -> Wt.aim.getD x 0 = 0 /\ Wt.lie.getD x 0 = V.lie.getD x 0 := fun x hx h0 h1 => by
  have hm := move_no (C := C.s4 f) (f := f) (x := x) (by rw [hrep x hx h0, h1])
  obtain ⟨a, b⟩ := htu x hx
  rw [hm] at b
  rcases b with ⟨-, b1, -⟩ | ⟨b0, -⟩
  ·exact ⟨by rw [b1]; exact h0, a⟩
  ·exact absurd (.inl rfl) b0
 have hsw : ∀ x, L.sw.getD x false = true -> Settled (C.s4 f) Wt x \/ Moving L (C.s4 f) Wt x := fun x hx => by
  obtain ⟨a, b⟩ := htu x hx
  have hw := hwoL x hx
  rcases g.sw x hx with ⟨a1, a2, a3⟩ | ⟨a1, a2, r, a3, a4⟩ | ⟨a1, a2, ⟨r, a3, a4⟩, a5⟩
  ·obtain ⟨k1, k2⟩ := hkeep x hx a1 a2
   exact .inl ⟨k1, by rw [k2]; exact a2, a3⟩
  ·right
   rcases b with ⟨-, b1, b2⟩ | ⟨b0, -⟩
   ·exact ⟨by rw [b1]; exact a1, by rw [b2]; exact a2, r, a3, a4⟩
   ·exfalso
    rcases move_or (C.s4 f) f x with e | ⟨e, -⟩
    ·exact b0 (.inl e)
    ·exact b0 (.inr (by rw [e, a1]))
  ·by_cases hl : V.lie.getD x 0 = (C.s4 f).wanted.getD x 0
   ·obtain ⟨k1, k2⟩ := hkeep x hx a1 hl
    exact .inl ⟨k1, by rw [k2]; exact hl, a2⟩
   ·right
    have hm := move_yes (C := C.s4 f) (f := f) (x := x) (r := r) a3 (by rw [eL]; exact a4) (by rw [h.oc x (sw_lt hx), <- h.st.taken]; exact a5) (hnf x) (by rw [hrep x hx a1]; exact hl)
    rw [hm] at b
    rcases b with ⟨b0, -⟩ | ⟨-, b1, b2⟩
    ·omega
    ·exact ⟨b1, by rw [b2, a2]; omega, r, a3, a4⟩
 refine ⟨(g.tr.sameT h.st).sameT hs, hlW, ⟨fun x hx => ?_, fun x hx => ?_⟩, hsw, fun r x hw hp => ?_, fun x => ?_⟩
 ·rw [(htu x hx).1]; exact hsv.lie x hx
 ·have := hwoL x hx
  rcases hsw x hx with e | e
  ·exact .inl e.1
  ·have := e.1; omega
 ·obtain ⟨a1, a2, a3⟩ := g.li r x hw hp
  have hr : r < L.rts.length := by
   have hp' : ((C.s4 f).line r).ph ≠ 46 := by rcases hp with hp | ⟨hp, -⟩ <;> omega
   have := z14 hp'
   rw [h.S.i4.ll, eL] at this
   exact this
  have hx := want_sw h.T hr hw
  obtain ⟨k1, k2⟩ := hkeep x hx a1 (by rw [a2, a3])
  exact ⟨k1, by rw [k2]; exact a2, a3⟩
 ·by_cases hx : L.sw.getD x false = true
  ·rcases (htu x hx).2 with ⟨-, -, b⟩ | ⟨-, -, b⟩
   ·rw [b]; exact hlb x
   ·rw [b]; omega
  ·rw [hno x (by simpa using hx)]; exact hlb x
end Go.Proofs.YtkbpocecbcaiiabGreatDoor
