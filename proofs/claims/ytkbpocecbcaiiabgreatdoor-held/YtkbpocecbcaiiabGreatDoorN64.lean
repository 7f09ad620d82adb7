import Derived.Test.YtkbpocecbcaiiabGreatDoorN58
import Derived.Test.YtkbpocecbcaiiabGreatDoorN55
import Derived.Test.YtkbpocecbcaiiabGreatDoorN57
namespace Go.Proofs.YtkbpocecbcaiiabGreatDoor
open Go.RowKit
def BeOK (C : RBx) : Prop := ∀ r, (C.line r).ph = 103 -> (C.line r).been = true
theorem BeOK.init (L : Lay) : BeOK (RBx.init L) := by
 intro r h
 have e : (RBx.init L).line r = RLn0 := z1l _ _ _ _ rfl
 rw [e] at h
 cases h
theorem step_been (C : RBx) (f : Fr) (r : Nat) (h : ((C.step f r).line r).ph = 103) : ((C.step f r).line r) = C.line r \/ ((C.step f r).line r).been = true := by
 have hp : ∀ x : RLn, ((C.put r x).line r) = C.line r \/ (C.put r x).line r = x := fun x => by
  rcases put_or C r r x with e | e
  ·exact .inr e
  ·exact .inl e
 have hq : ∀ x : RLn, x.ph ≠ 103 -> ((C.put r x).line r).ph = 103 -> (C.put r x).line r = C.line r := fun x hx h => by
  rcases hp x with e | e
  ·exact e
  ·rw [e] at h; exact absurd h hx
 have hov : C.overtaken r = C.put r { C.line r with marks := z27 (C.L.rt r).path.length, ph := 116 } := rfl
 have hd : ∀ D : RBx, D.lines = (C.put r RLn0).lines -> (D.line r).ph = 103 -> D.line r = C.line r := by
  intro D hD h
  have e : D.line r = (C.put r RLn0).line r := by unfold RBx.line; rw [hD]
  rw [e] at h ⊢
  exact hq RLn0 (by decide) h
 by_cases h119 : (C.line r).ph = 119
 ·revert h
  unfold RBx.step
  rw [if_pos h119]
  split
  ·exact fun h => .inl (hq _ (by show (102 : Nat) ≠ 103; decide) h)
  ·split
   ·intro _
    rcases hp ⟨103, (C.line r).train, true, (C.line r).marks, (C.line r).gone, (C.line r).count⟩ with e | e
    ·exact .inl e
    ·right; rw [e]
   ·exact fun _ => .inl rfl
 by_cases h103 : (C.line r).ph = 103
 ·revert h
  unfold RBx.step
  rw [if_neg h119, if_pos h103, hov]
  split
  ·exact fun h => .inl (hq _ (by show (116 : Nat) ≠ 103; decide) h)
  ·split
   ·exact fun h => .inl (hq _ (by show (102 : Nat) ≠ 103; decide) h)
   ·split
    ·exact fun h => .inl (hq _ (by show (119 : Nat) ≠ 103; decide) h)
    ·exact fun _ => .inl rfl
 ·revert h
  have hm : (C.mkd f r).ph = (C.line r).ph := rfl
  have hm2 : ∀ g, ({ C.mkd f r with gone := g } : RLn).ph ≠ 103 := fun g => h103
  unfold RBx.step RBx.passed
  rw [if_neg h119, if_neg h103, hov]
  repeat' split
  all_goals first
   | exact fun _ => .inl rfl
   | exact fun h => .inl (hq _ (by rw [hm]; exact h103) h)
   | exact fun h => .inl (hq _ (hm2 _) h)
   | exact fun h => .inl (hq _ (by show (116 : Nat) ≠ 103; decide) h)
   | exact fun h => .inl (hq _ (by decide) h)
   | exact fun h => .inl (hq _ (by show (C.line r).ph ≠ 103; exact h103) h)
   | exact fun h => .inl (hd _ rfl h)
theorem BeOK.step {C : RBx} (h : BeOK C) (f : Fr) (k : Nat) : BeOK (C.step f k) := by
 intro r hr
 by_cases e : r = k
 ·subst e
  rcases step_been C f r hr with e | e
  ·rw [e] at hr ⊢; exact h r hr
  ·exact e
 ·rw [z3e C f k r e] at hr ⊢
  exact h r hr
theorem BeOK.stepN {C : RBx} (h : BeOK C) (f : Fr) : ∀ k, BeOK (C.stepN f k)
 | 0 => h
 | k + 1 => (BeOK.stepN h f k).step f k
theorem BeOK.s4 {C : RBx} (h : BeOK C) (f : Fr) : BeOK (C.s4 f) := by
 have h1 : BeOK (C.s1 f) := by
  intro r hr
  have e : (C.s1 f).line r = C.line r := by unfold RBx.line; exact congrArg (fun l => l.getD r RLn0) (z0w C f C.L.sw.length).2.2.1
  rw [e] at hr ⊢
  exact h r hr
 have h2 : BeOK (C.s2 f) := h1.stepN f _
 intro r hr
 have h3 : (C.s4 f).line r = (C.s3 f).line r := by
  rcases z3g (C.s3 f) f r (C.s3 f).waits.length with e | e
  ·exact e
  ·have e' : ((C.s4 f).line r).ph = 119 := e
   omega
 rw [h3] at hr ⊢
 have h4 : (C.s3 f).line r = (C.s2 f).line r := by
  rcases z4x (C.s2 f) f r (f.cmds.size / 2) with e | e
  ·exact e
  ·have e' : ((C.s3 f).line r).ph = 100 := e
   omega
 rw [h4] at hr ⊢
 exact h2 r hr
theorem doC_still {C : RBx} (f : Fr) (c x r : Nat) (h : C.canc r = false) : (C.doC f c x).line r = C.line r := by
 unfold RBx.doC RBx.ask RBx.cancel
 by_cases h1 : c = 114
 ·rw [if_pos h1]; split <;> rfl
 rw [if_neg h1]
 by_cases h2 : c = 99
 ·rw [if_pos h2]
  split
  ·rename_i hh
   by_cases e : r = x - 65
   ·rw [<- e, h] at hh; cases hh
   ·exact z4v _ _ _ e
  ·rfl
 rw [if_neg h2]
 split <;> rfl
theorem canc_not {C : RBx} {r : Nat} (h : (C.line r).ph ≠ 119 /\ (C.line r).ph ≠ 103 /\ (C.line r).ph ≠ 102) : C.canc r = false := by
 unfold RBx.canc
 simp [h.1, h.2.1, h.2.2]
theorem doN_still {C : RBx} (f : Fr) {r : Nat} (h : (C.line r).ph ≠ 119 /\ (C.line r).ph ≠ 103 /\ (C.line r).ph ≠ 102) : ∀ k, (C.doN f k).line r = C.line r
 | 0 => rfl
 | k + 1 => by
  have ih := doN_still f h k
  show ((C.doN f k).doC f _ _).line r = _
  rw [doC_still f _ _ r (canc_not (by rw [ih]; exact h)), ih]
theorem s4_still {C : RBx} {f : Fr} (S : Stgs C f) {r : Nat} (h : ((C.s2 f).line r).ph = 100 \/ ((C.s2 f).line r).ph = 116) : (C.s4 f).line r = (C.s2 f).line r := by
 have h3 : (C.s3 f).line r = (C.s2 f).line r := doN_still f (by omega) _
 rw [s4_keeps S (by rw [h3]; omega), h3]
theorem s2_line {C : RBx} {f : Fr} (S : Stgs C f) {r : Nat} (hr : r < C.L.rts.length) : (C.s2 f).line r = (((C.s1 f).stepN f r).step f r).line r /\ ((C.s1 f).stepN f r).line r = C.line r /\ ((C.s1 f).stepN f r).L = C.L /\ r < ((C.s1 f).stepN f r).lines.length := by
 have h1l : (C.s1 f).line r = C.line r := by unfold RBx.line; exact congrArg (fun l => l.getD r RLn0) (z0w C f C.L.sw.length).2.2.1
 have hL : ((C.s1 f).stepN f r).L = C.L := (z2v (C.s1 f) f r).2.1.trans S.l1
 refine ⟨?_, (z4k (C.s1 f) f r r (Nat.le_refl _)).trans h1l, hL, by rw [(S.t r (by omega)).ll, hL]; exact hr⟩
 rw [S.n2]
 exact z4l (C.s1 f) f r C.L.rts.length hr
theorem drop_step {C : RBx} {f : Fr} (S : Stgs C f) {r : Nat} (hr : r < C.L.rts.length) (h : (C.line r).ph = 100) :
  (C.inB f r = true /\ ((C.s4 f).line r).ph = 116) ∨
  (C.inB f r = false /\ 0 < (C.line r).count /\ ((C.s4 f).line r).ph = 100 /\ ((C.s4 f).line r).count + 1 = (C.line r).count) ∨
  (C.inB f r = false /\ (C.line r).count = 0 /\ C.busy f r = false /\ (((C.s4 f).line r).ph = 46 \/ ((C.s4 f).line r).ph = 119)) ∨
  (C.inB f r = false /\ (C.line r).count = 0 /\ C.busy f r = true /\ ((C.s4 f).line r).ph = 100 /\ ((C.s4 f).line r).count = 0) := by
 obtain ⟨e2, el, eL, hrl⟩ := s2_line S hr
 have hin : ((C.s1 f).stepN f r).inB f r = C.inB f r := by unfold RBx.inB RBx.pth; rw [eL]
 have hbu := busy_L eL f r
 unfold RBx.step at e2
 rw [el, hin, hbu, if_neg (by omega), if_neg (by omega), if_neg (by omega), if_pos h] at e2
 cases hi : C.inB f r with
 | true =>
  left
  rw [hi, if_pos rfl] at e2
  have hov : (((C.s1 f).stepN f r).overtaken r).line r = { ((C.s1 f).stepN f r).line r with marks := z27 (((C.s1 f).stepN f r).L.rt r).path.length, ph := 116 } := by
   have hov : ((C.s1 f).stepN f r).overtaken r = ((C.s1 f).stepN f r).put r { ((C.s1 f).stepN f r).line r with marks := z27 (((C.s1 f).stepN f r).L.rt r).path.length, ph := 116 } := rfl
   rw [hov, z17 _ r r _ hrl, if_pos rfl]
  rw [hov] at e2
  refine ⟨rfl, ?_⟩
  rw [s4_still S (.inr (by rw [e2])), e2]
 | false =>
  right
  rw [hi, if_neg (by simp)] at e2
  by_cases hc : 0 < (C.line r).count
  ·left
   rw [if_pos hc, z17 _ r r _ hrl, if_pos rfl] at e2
   rw [s4_still S (.inl (by rw [e2]; exact h)), e2]
   exact ⟨rfl, hc, h, by simp only; omega⟩
  ·right
   rw [if_neg hc] at e2
   cases hb : C.busy f r with
   | false =>
    left
    refine ⟨rfl, by omega, rfl, ?_⟩
    rw [hb] at e2
    have e3 : (C.s2 f).line r = RLn0 := by
     rw [e2, if_pos (by rfl)]
     show (((C.s1 f).stepN f r).put r RLn0).line r = RLn0
     rw [z17 _ r r _ hrl, if_pos rfl]
    have h3 : (C.s3 f).line r = RLn0 := by rw [show (C.s3 f).line r = (C.s2 f).line r from doN_still f (by rw [e3]; decide) _, e3]
    rcases z3g (C.s3 f) f r (C.s3 f).waits.length with e | e
    ·left
     have e' : (C.s4 f).line r = (C.s3 f).line r := e
     rw [e', h3]; rfl
    ·exact .inr e
   | true =>
    right
    rw [hb, if_neg (by decide), el] at e2
    rw [s4_still S (.inl (by rw [e2]; exact h)), e2]
    exact ⟨rfl, by omega, rfl, h, by omega⟩
theorem begun_line {C : RBx} {f : Fr} (S : Stgs C f) (hB : BeOK C) {r : Nat} (hr : r < C.L.rts.length) (hg : (C.line r).ph = 103) (ho : f.occ.getD (C.L.rt r).foot false = true) {j : Nat} (hj : j < f.cmds.size / 2) (h1 : pk f.cmds (2 * j) = 99) (h2 : pk f.cmds (2 * j + 1) - 65 = r)
  (hk : (C.s2 f).doAt f j = 107) : ((C.s4 f).line r).ph = 100 /\ ((C.s4 f).line r).count = C.L.D := by
 obtain ⟨e2, el, eL, hrl⟩ := s2_line S hr
 have hbe := hB r hg
 have hb2 : ((C.s2 f).line r).been = true := by
  rw [e2]
  unfold RBx.step
  rw [el, if_neg (by omega), if_pos hg]
  split
  ·have hov : (((C.s1 f).stepN f r).overtaken r).line r = { ((C.s1 f).stepN f r).line r with marks := z27 (((C.s1 f).stepN f r).L.rt r).path.length, ph := 116 } := by
    have hov : ((C.s1 f).stepN f r).overtaken r = ((C.s1 f).stepN f r).put r { ((C.s1 f).stepN f r).line r with marks := z27 (((C.s1 f).stepN f r).L.rt r).path.length, ph := 116 } := rfl
    rw [hov, z17 _ r r _ hrl, if_pos rfl]
   rw [hov, el]; exact hbe
  ·split
   ·rw [z17 _ r r _ hrl, if_pos rfl]; exact hbe
   ·split
    ·rw [z17 _ r r _ hrl, if_pos rfl]; exact hbe
    ·rw [el]; exact hbe
 have hc : ((C.s2 f).doN f j).canc r = true := by
  unfold RBx.doAt RBx.doA at hk
  rw [h1, h2, if_neg (by decide), if_pos rfl] at hk
  by_cases hh : ((C.s2 f).doN f j).canc r = true
  ·exact hh
  ·rw [if_neg hh] at hk; omega
 have hEl : ((C.s2 f).doN f j).line r = (C.s2 f).line r := by
  rcases z4x (C.s2 f) f r j with e | e
  ·exact e
  ·rw [canc_not (by omega)] at hc; cases hc
 have hEL : ((C.s2 f).doN f j).L = C.L := (z38 (C.s2 f) f j).2.1.trans S.l2
 have hElen : r < ((C.s2 f).doN f j).lines.length := by rw [(S.d j (by omega)).ll, hEL]; exact hr
 have hN : ((C.s2 f).doN f (j + 1)).line r = ⟨100, ((C.s2 f).line r).train, ((C.s2 f).line r).been, ((C.s2 f).line r).marks, ((C.s2 f).line r).gone, C.L.D⟩ := by
  show (((C.s2 f).doN f j).doC f (pk f.cmds (2 * j)) (pk f.cmds (2 * j + 1))).line r = _
  unfold RBx.doC RBx.cancel
  rw [h1, h2, if_neg (by decide), if_pos rfl, if_pos hc, z17 _ r r _ hElen, if_pos rfl, hEl, hb2, hEL, ho]
  rfl
 have hrest : ∀ d, ((C.s2 f).doN f (j + 1 + d)).line r = ((C.s2 f).doN f (j + 1)).line r := by
  intro d
  induction d with
  | zero => rfl
  | succ d ih =>
   show (((C.s2 f).doN f (j + 1 + d)).doC f _ _).line r = _
   rw [doC_still f _ _ r (canc_not (by rw [ih, hN]; simp)), ih]
 have h3 : (C.s3 f).line r = ((C.s2 f).doN f (j + 1)).line r := by
  have := hrest (f.cmds.size / 2 - (j + 1))
  rw [show j + 1 + (f.cmds.size / 2 - (j + 1)) = f.cmds.size / 2 by omega] at this
  exact this
 rw [s4_keeps S (by rw [h3, hN]; simp), h3, hN]
 exact ⟨rfl, rfl⟩
def HeldI (C : RBx) (W : List Nat) : Prop := W.length = C.L.rts.length /\ ∀ r, r < C.L.rts.length -> W.getD r 0 = 0 \/ ((C.line r).ph = 100 /\ (C.line r).count + 1 = W.getD r 0)
def LampI (C : RBx) (t : ByteArray) : Prop := t.size = 0 \/ (t.size = C.L.rts.length /\ ∀ r, r < C.L.rts.length -> pk t r = 103 -> (C.line r).ph = 103)
def keptN (w0 : Nat) (in0 free : Bool) : Nat := if w0 = 0 then 0 else if in0 then 0 else if 1 < w0 then w0 - 1 else if free then 0 else w0
def in0B (L : Lay) (s : ByteArray) (r : Nat) : Bool := pk s ((secs (L.rt r).path).getD 0 0) == 49
def allB (L : Lay) (a0 : ByteArray) (r : Nat) : Bool := allP (secs (L.rt r).path) (fun x => pk a0 x == 65 + r)
def freeS (L : Lay) (s : ByteArray) (r : Nat) : Bool := allP (secs (L.rt r).path) (fun x => pk s x == 48)
def DropT (L : Lay) (t0 a0 a1 : ByteArray) (r : Nat) : Prop := allB L a0 r = true /\ pk a1 r = 100 /\ pk t0 r = 114
def KeptQ (L : Lay) (s t0 a0 a1 : ByteArray) (r w0 : Nat) : Prop :=
 w0 = 0 \/ (w0 ≠ 0 /\ in0B L s r = true /\ pk a1 r = 116 /\ pk t0 r = 114) \/ (1 < w0 /\ in0B L s r = false /\ DropT L t0 a0 a1 r) ∨
 (w0 = 1 /\ in0B L s r = false /\ freeS L s r = true /\ ((pk a1 r = 46 /\ allB L a0 r = false) \/ pk a1 r = 119)) ∨
 (w0 = 1 /\ in0B L s r = false /\ freeS L s r = false /\ DropT L t0 a0 a1 r)
theorem path_sw {C : RBx} (hi : Inv C) {r : Nat} (hr : r < C.L.rts.length) : ∀ x, x ∈ secs (C.L.rt r).path -> x < C.L.sw.length := by
 intro x hx
 obtain ⟨y, hy, e⟩ := List.mem_map.1 (show x ∈ (C.L.rt r).path.map (·.1) from hx)
 rw [<- e]; exact ((hi.rt hr).ps y hy).1
theorem path_pos {C : RBx} (hi : Inv C) {r : Nat} (hr : r < C.L.rts.length) : 0 < (secs (C.L.rt r).path).length := by
 rw [z1d]; exact List.length_pos_iff.2 (hi.rt hr).ne
theorem in0_eq {C : RBx} (hi : Inv C) {s : ByteArray} {r : Nat} (hr : r < C.L.rts.length) : in0B C.L s r = C.inB (C.L.frOf s) r := by
 unfold in0B RBx.inB RBx.pth
 have hp := path_pos hi hr
 rw [occ_at _ (by rw [z06 hp]; exact path_sw hi hr _ (List.getElem_mem hp))]
theorem free_eq {C : RBx} (hi : Inv C) {s : ByteArray} (hf : C.L.frameB s = true) {r : Nat} (hr : r < C.L.rts.length) : freeS C.L s r = !C.busy (C.L.frOf s) r := by
 have hg := (z2t C.L s).1 hf
 unfold freeS allP RBx.busy busyF RBx.pth
 apply Bool.eq_iff_iff.2
 rw [List.all_eq_true, Bool.not_eq_true', List.any_eq_false]
 constructor
 ·intro h x hx
  have h1 : pk s x = 48 := by simpa using h x hx
  have := (occ_byte hg (path_sw hi hr x hx)).2 h1
  rw [this]
  decide
 ·intro h x hx
  have h1 := h x hx
  have := (occ_byte hg (path_sw hi hr x hx)).1 (by simpa using h1)
  simp [this]
theorem drop_told {C : RBx} {s : ByteArray} (S : Stgs C (C.L.frOf s)) (hJ : KJ (C.s4 (C.L.frOf s))) {r : Nat} (hr : r < C.L.rts.length) (h : ((C.s4 (C.L.frOf s)).line r).ph = 100) : DropT C.L (laS C s) (lkS (C.s4 (C.L.frOf s))) (phS (C.s4 (C.L.frOf s))) r := by
 have hL4 := S.l4
 have hrl : r < (C.s4 (C.L.frOf s)).lines.length := by rw [S.i4.ll, hL4]; exact hr
 refine ⟨?_, ?_, ?_⟩
 ·unfold allB allP
  rw [List.all_eq_true]
  intro x hx
  have hx' : x ∈ secs ((C.s4 (C.L.frOf s)).L.rt r).path := by rw [hL4]; exact hx
  have hw := whole_of S.i4 hJ.ki.lk (r := r) (by rw [hL4]; exact hr) (by omega) (by omega) hx'
  rw [lock_pk S.i4 (path_sw S.i4 (r := r) (by rw [hL4]; exact hr) x hx'), hw]
  simp [lockC]
 ·rw [Inv.ph256 hJ.ph.small r hrl, h]
 ·rw [lamp_pk hrl, if_neg (by omega)]
theorem idle_told {C : RBx} {s : ByteArray} (S : Stgs C (C.L.frOf s)) {r : Nat} (hr : r < C.L.rts.length) (h : ((C.s4 (C.L.frOf s)).line r).ph = 46) : allB C.L (lkS (C.s4 (C.L.frOf s))) r = false := by
 have hL4 := S.l4
 have hr4 : r < (C.s4 (C.L.frOf s)).L.rts.length := by rw [hL4]; exact hr
 have hp := path_pos S.i4 hr4
 rw [hL4] at hp
 unfold allB allP
 rw [List.all_eq_false]
 refine ⟨_, List.getElem_mem hp, ?_⟩
 have hx := path_sw S.i4 hr4 (secs (C.L.rt r).path)[0] (by rw [hL4]; exact List.getElem_mem hp)
 rw [lock_pk S.i4 hx]
 cases hl : (C.s4 (C.L.frOf s)).lockedBy (secs (C.L.rt r).path)[0] with
 | none => simp [lockC]; omega
 | some r' =>
  have hlb : (C.s4 (C.L.frOf s)).lockB (secs (C.L.rt r).path)[0] r' = true := by
   unfold RBx.lockedBy at hl
   exact List.find?_some hl
  have hne : r' ≠ r := by
   intro e
   subst e
   unfold RBx.lockB at hlb
   rw [h] at hlb
   simp at hlb
  show ¬ (65 + r' == 65 + r) = true
  simp; omega
theorem kept_facts {C : RBx} {s : ByteArray} (S : Stgs C (C.L.frOf s)) (hi : Inv C) (hJ : KJ (C.s4 (C.L.frOf s))) (hf : C.L.frameB s = true) {W : List Nat} (hH : HeldI C W) {r : Nat} (hr : r < C.L.rts.length) :
  KeptQ C.L s (laS C s) (lkS (C.s4 (C.L.frOf s))) (phS (C.s4 (C.L.frOf s))) r (W.getD r 0) ∧
  (keptN (W.getD r 0) (in0B C.L s r) (freeS C.L s r) = 0 \/ (((C.s4 (C.L.frOf s)).line r).ph = 100 /\ ((C.s4 (C.L.frOf s)).line r).count + 1 = keptN (W.getD r 0) (in0B C.L s r) (freeS C.L s r))) := by
 have hrl : r < (C.s4 (C.L.frOf s)).lines.length := by rw [S.i4.ll, S.l4]; exact hr
 have ep := Inv.ph256 hJ.ph.small r hrl
 have hin := in0_eq hi (s := s) hr
 have hfr := free_eq hi hf hr
 rcases hH.2 r hr with h0 | ⟨h1, h2⟩
 ·exact ⟨.inl h0, .inl (by unfold keptN; rw [if_pos h0])⟩
 generalize W.getD r 0 = w0 at *
 rcases drop_step S hr h1 with ⟨a, b⟩ | ⟨a, b, c, d⟩ | ⟨a, b, c, d⟩ | ⟨a, b, c, d, e⟩
 ·rw [a] at hin
  refine ⟨.inr (.inl ⟨by omega, hin, by rw [ep, b], by rw [lamp_pk hrl, if_neg (by omega)]⟩), .inl ?_⟩
  unfold keptN
  rw [if_neg (by omega), hin]
  rfl
 ·rw [a] at hin
  refine ⟨.inr (.inr (.inl ⟨by omega, hin, drop_told S hJ hr c⟩)), .inr ⟨c, ?_⟩⟩
  unfold keptN
  rw [if_neg (by omega), hin, if_neg (by decide), if_pos (by omega)]
  omega
 ·rw [a] at hin
  rw [c] at hfr
  have hw : w0 = 1 := by omega
  refine ⟨.inr (.inr (.inr (.inl ⟨hw, hin, hfr, ?_⟩))), .inl ?_⟩
  ·rw [ep]
   rcases d with d | d
   ·exact .inl ⟨d, idle_told S hr d⟩
   ·exact .inr d
  ·unfold keptN
   rw [if_neg (by omega), hin, if_neg (by decide), if_neg (by omega), hfr]
   rfl
 ·rw [a] at hin
  rw [c] at hfr
  have hw : w0 = 1 := by omega
  refine ⟨.inr (.inr (.inr (.inr ⟨hw, hin, hfr, drop_told S hJ hr d⟩))), .inr ⟨d, ?_⟩⟩
  unfold keptN
  rw [if_neg (by omega), hin, if_neg (by decide), if_neg (by omega), hfr, if_neg (by decide)]
  omega
def BegP (C : RBx) (f : Fr) (r : Nat) : Prop := ((C.s4 f).line r).ph = 100 /\ ((C.s4 f).line r).count = C.L.D
theorem begun_facts {C : RBx} {s lm : ByteArray} (S : Stgs C (C.L.frOf s)) (hB : BeOK C) (hl : LampI C lm) {j : Nat} (hj : j < (C.L.frOf s).cmds.size / 2) (h1 : pk (C.L.frOf s).cmds (2 * j) = 99) (h2 : pk (anS C s) j = 107) :
  65 <= pk (C.L.frOf s).cmds (2 * j + 1) /\ pk (C.L.frOf s).cmds (2 * j + 1) - 65 < C.L.rts.length ∧
  (lm.size ≠ 0 -> pk lm (pk (C.L.frOf s).cmds (2 * j + 1) - 65) = 103 -> pk s (C.L.rt (pk (C.L.frOf s).cmds (2 * j + 1) - 65)).foot = 49 -> BegP C (C.L.frOf s) (pk (C.L.frOf s).cmds (2 * j + 1) - 65)) := by
 have hcm := S.cm j hj
 rw [h1] at hcm
 unfold Lay.cmdB at hcm
 rw [if_neg (by decide), if_pos rfl] at hcm
 have hx : 65 <= pk (C.L.frOf s).cmds (2 * j + 1) /\ pk (C.L.frOf s).cmds (2 * j + 1) < 65 + C.L.rts.length := by
  unfold numF at hcm
  by_cases h : 65 <= pk (C.L.frOf s).cmds (2 * j + 1) /\ pk (C.L.frOf s).cmds (2 * j + 1) < 65 + C.L.rts.length
  ·exact h
  ·rw [if_neg h] at hcm; cases hcm
 have hr : pk (C.L.frOf s).cmds (2 * j + 1) - 65 < C.L.rts.length := by omega
 refine ⟨hx.1, hr, fun hz h3 h4 => ?_⟩
 rcases hl with hl | ⟨-, hl⟩
 ·exact absurd hl hz
 have hro := S.i4.rt (r := pk (C.L.frOf s).cmds (2 * j + 1) - 65) (by rw [S.l4]; exact hr)
 rw [S.l4] at hro
 have hft := hro.foot
 refine begun_line S hB hr (hl _ hr h3) ?_ hj h1 rfl ?_
 ·rw [occ_at _ hft, h4]; rfl
 ·rw [<- an_pk C s hj]; exact h2
theorem HeldI.init (L : Lay) : HeldI (RBx.init L) (List.replicate L.rts.length 0) := ⟨by simp [RBx.init], fun r _ => .inl (z1l _ _ _ _ rfl)⟩
theorem lampI_next {C : RBx} {s : ByteArray} (S : Stgs C (C.L.frOf s)) : LampI (C.s4 (C.L.frOf s)) (laS C s) := by
 right
 refine ⟨?_, fun r hr h => ?_⟩
 ·unfold laS; rw [z0q]; unfold RBx.lampsT; rw [List.length_map, S.i4.ll]
 ·rw [lamp_pk (by rw [S.i4.ll]; exact hr)] at h
  by_cases e : ((C.s4 (C.L.frOf s)).line r).ph = 103
  ·exact e
  ·rw [if_neg e] at h; omega
theorem set_same {l : List Nat} {k : Nat} (hk : k < l.length) : l.set k (l.getD k 0) = l := by
 rw [z06 hk]
 apply List.ext_getElem
 ·simp
 ·intro i h1 h2
  rw [List.getElem_set]
  split
  ·rename_i e; subst e; rfl
  ·rfl
set_option maxRecDepth 100000 in
set_option maxHeartbeats 16000000 in
theorem kkept_yes (g : Nat) (L : Lay) (r : Nat) (s : ByteArray) (gh gt gl nr : Nat) (W : List Nat) (t0 t1 t2 t3 a0 a1 a2 a3 a4 : ByteArray) (w : World) (h : KPl w g L) (hh : w.heap[gh]? = some (z4s t0 t1 t2 t3)) (ha : w.heap[gt]? = some (toldO a0 a1 a2 a3 a4)) (hnr : nr = L.rts.length)
  (hRow : Row w gl nr W) (hWl : W.length = nr) (hr : r < nr) (hrt : nr <= 100) (hW : W.getD r 0 <= 2000) (hgh : gh ≠ gl) (hgt : gt ≠ gl) (hps : ∀ x, x ∈ secs (L.rt r).path -> x < L.sw.length) (hp0 : 0 < (secs (L.rt r).path).length) (hsz : L.sw.length <= s.size) (_hs : s.size <= 1000)
  (q0 : t0.size = nr) (s0 : a0.size = L.sw.length) (q1 : a1.size = nr) (q : KeptQ L s t0 a0 a1 r (W.getD r 0)) :
  Calls Tryz.prog 21 #[.pointer (some ⟨g, 0, none⟩), .int .i64 r, .slice (some ⟨gl, 0, none⟩) nr nr, .string s, .pointer (some ⟨gh, 0, none⟩), .pointer (some ⟨gt, 0, none⟩)] w fun e w' => e = .returned (.bool true) /\ Only (fun b => b = gl) w w' ∧
   Row w' gl nr (W.set r (keptN (W.getD r 0) (in0B L s r) (freeS L s r))) := by
 have hr' : r < L.rts.length := by omega
 have HWH := zh (kwhole_any g L r a0 w h hr' (by omega) (fun x hx => by rw [s0]; exact hps x hx))
 have HEM := zh (kempty_any g L r s w h hr' (fun x hx => by have := hps x hx; omega))
 change Hid (Calls _ _ _ _ (fun e w' => e = .returned (.bool (allB L a0 r)) /\ w' = w)) at HWH
 change Hid (Calls _ _ _ _ (fun e w' => e = .returned (.bool (freeS L s r)) /\ w' = w)) at HEM
 obtain ⟨vh, vp, vf, va, vk, vw, vs, vj, e, -, -, -, a4', -⟩ := h
 obtain ⟨⟨-, -, -, -, -, -, c6, -⟩, hg⟩ := z0n e
 obtain ⟨ga, oa, ca, ar, cr, ev, hga, xr, hui⟩ := z3h a4' r (by simpa using hr')
 subst ev
 rw [rts_path hr'] at xr hui
 rw [List.length_map, <- hnr] at c6
 obtain ⟨ar', cr', hv, hm, hrow⟩ := z3i hui
 simp only [Value.slice.injEq] at hv
 obtain ⟨rfl, -, rfl⟩ := hv
 obtain ⟨gq, oq, rfl, hgq, xq⟩ := hrow 0 hp0
 rw [Nat.add_zero] at xq
 obtain ⟨x0, hx0⟩ : ∃ x, x = (secs (L.rt r).path)[0] := ⟨_, rfl⟩
 have hx0s : x0 < L.sw.length := by rw [hx0]; exact hps _ (List.getElem_mem hp0)
 rw [<- hx0] at xq
 have hxs : x0 < s.size := by omega
 obtain ⟨y, hy⟩ : ∃ y, (s[x0]'hxs).toNat = y := ⟨_, rfl⟩
 have hin : in0B L s r = (y == 49) := by
  unfold in0B
  rw [z06 hp0, <- hx0, <- z0j s x0 hxs, hy]
 obtain ⟨pl, hpl⟩ : ∃ n, n = (secs (L.rt r).path).length := ⟨_, rfl⟩
 rw [<- hpl] at xr hp0
 obtain ⟨⟨y0, -⟩, hghl⟩ := z1i hh
 obtain ⟨⟨z0, z1, -⟩, -, hgtl⟩ := z0m ha
 have HHW := zh (fun (wz : World) (hz : Only (fun b => b = gl) w wz) => (z1i ((hz.block gh (z0c hh) (fun e => hgh e)).trans hh)))
 have HTW := zh (fun (wz : World) (hz : Only (fun b => b = gl) w wz) => (z0m ((hz.block gt (z0c ha) (fun e => hgt e)).trans ha)))
 have kt : r < t0.size := by omega
 have ka : r < a1.size := by omega
 obtain ⟨u, hu⟩ : ∃ c, (t0[r]'kt).toNat = c := ⟨_, rfl⟩
 obtain ⟨p, hp⟩ : ∃ c, (a1[r]'ka).toNat = c := ⟨_, rfl⟩
 unfold KeptQ DropT at q
 rw [hin, <- z0j t0 r kt, <- z0j a1 r ka, hu, hp] at q
 rw [hin]
 have xw := hRow.cell hr hWl
 have zw := hRow.frozen r
 have hgl := hRow.lt
 have HST := zh (fun (v : Nat) => hRow.set r v)
 have HSA := zh (set_same (l := W) (k := r) (by omega))
 have HRW := zh hRow
 generalize W.getD r 0 = w0 at *
 generalize allB L a0 r = av at *
 generalize freeS L s r = fv at *
 have l1 : (r : Int) < nr := by omega
 have l2 : (0 : Int) <= r := by omega
 have l3 : (x0 : Int) < s.size := by omega
 have l4 : (0 : Int) <= x0 := by omega
 have l5 : (0 : Int) < pl := by omega
 have l6 : (r : Int) < t0.size := by omega
 have l7 : (r : Int) < a1.size := by omega
 clear hps hin hrow hui e a4' hx0 hpl hh ha hRow hnr s0
 go_enter Tryz.func21, Tryz.ntmps21
 go_wp2_with fail
 refine (uh HWH).mono ?_
 rintro e w1 ⟨rfl, hw1⟩
 obtain rfl : w = w1 := hw1.symm
 go_wp2_with fail
 refine (uh HEM).mono ?_
 rintro e w2 ⟨rfl, hw2⟩
 obtain rfl : w = w2 := hw2.symm
 clear HWH HEM
 rcases q with q | ⟨qa, qb, qc, qd⟩ | ⟨qa, qb, qc, qd, qe⟩ | ⟨qa, qb, qc, qd⟩ | ⟨qa, qb, qc, qd, qe, qf⟩
 ·subst q
  have HFI := zh (show Row w gl nr (W.set r (keptN 0 (y == 49) fv)) by
   have e : keptN 0 (y == 49) fv = 0 := by unfold keptN; rw [if_pos rfl]
   rw [e, uh HSA]; exact uh HRW)
  go_wp2
  go_ret
  exact ⟨rfl, Only.refl _ _, uh HFI⟩
 ·have e1 : ((w0 : Int) == 0) = false := by simp; omega
  have e2 : y = 49 := by simpa using qb
  subst e2 qc qd
  have HFI := zh (show Row (w.setCell ⟨gl, r, none⟩ (.int .i64 (0 : Nat))) gl nr (W.set r (keptN w0 (49 == 49) fv)) by
   have e : keptN w0 (49 == 49) fv = 0 := by unfold keptN; rw [if_neg qa]; rfl
   rw [e]; exact uh HST 0)
  have HOO := zh (only_gl w gl r (.int .i64 (0 : Nat)))
  clear qb qa
  go_upto_region 7 with fail
  change Hid (Row (w.setCell ⟨gl, r, none⟩ (.int .i64 0)) gl nr _) at HFI
  change Hid (Only _ w (w.setCell ⟨gl, r, none⟩ (.int .i64 0))) at HOO
  generalize w.setCell ⟨gl, r, none⟩ (.int .i64 0) = W2 at *
  obtain ⟨⟨v0, -⟩, hv1⟩ := uh HHW W2 (uh HOO)
  obtain ⟨⟨-, v2, -⟩, -, hv3⟩ := uh HTW W2 (uh HOO)
  go_wp2
  go_ret
  exact ⟨rfl, uh HOO, uh HFI⟩
 ·have e1 : ((w0 : Int) == 0) = false := by simp; omega
  have e2 : ((y : Int) == 49) = false := by simp at qb ⊢; omega
  have e2' : (y == 49) = false := qb
  have e3 : (1 : Int) < w0 := by omega
  have e3' : decide (1 < w0) = true := by simp; omega
  obtain ⟨w9, hw9⟩ : ∃ x, x = w0 - 1 := ⟨_, rfl⟩
  have e4 : (w0 : Int) - 1 = w9 := by omega
  have b9 : w9 <= 2000 := by omega
  subst qc qd qe
  have HFI := zh (show Row (w.setCell ⟨gl, r, none⟩ (.int .i64 (w9 : Nat))) gl nr (W.set r (keptN w0 (y == 49) fv)) by
   have e : keptN w0 (y == 49) fv = w9 := by unfold keptN; rw [if_neg (by omega), e2', if_neg (by decide), if_pos (by omega), hw9]
   rw [e]; exact uh HST w9)
  have HOO := zh (only_gl w gl r (.int .i64 (w9 : Nat)))
  clear qb e2' hw9 qa
  go_upto_region 10 with fail
  generalize w.setCell ⟨gl, r, none⟩ (.int .i64 (w9 : Nat)) = W2 at *
  obtain ⟨⟨v0, -⟩, hv1⟩ := uh HHW W2 (uh HOO)
  obtain ⟨⟨-, v2, -⟩, -, hv3⟩ := uh HTW W2 (uh HOO)
  go_wp2
  go_ret
  exact ⟨rfl, uh HOO, uh HFI⟩
 ·have e2 : ((y : Int) == 49) = false := by simp at qb ⊢; omega
  have e2' : (y == 49) = false := qb
  subst qa qc
  have HFI := zh (show Row (w.setCell ⟨gl, r, none⟩ (.int .i64 (0 : Nat))) gl nr (W.set r (keptN 1 (y == 49) true)) by
   have e : keptN 1 (y == 49) true = 0 := by unfold keptN; rw [if_neg (by omega), e2', if_neg (by decide), if_neg (by omega)]; rfl
   rw [e]; exact uh HST 0)
  have HOO := zh (only_gl w gl r (.int .i64 (0 : Nat)))
  clear qb e2'
  go_upto_region 13 with fail
  change Hid (Row (w.setCell ⟨gl, r, none⟩ (.int .i64 0)) gl nr _) at HFI
  change Hid (Only _ w (w.setCell ⟨gl, r, none⟩ (.int .i64 0))) at HOO
  generalize w.setCell ⟨gl, r, none⟩ (.int .i64 0) = W2 at *
  obtain ⟨⟨v0, -⟩, hv1⟩ := uh HHW W2 (uh HOO)
  obtain ⟨⟨-, v2, -⟩, -, hv3⟩ := uh HTW W2 (uh HOO)
  rcases qd with ⟨qd, qe⟩ | qd
  ·subst qd qe
   go_wp2
   go_ret
   exact ⟨rfl, uh HOO, uh HFI⟩
  ·subst qd
   go_wp2
   go_ret
   exact ⟨rfl, uh HOO, uh HFI⟩
 ·have e2 : ((y : Int) == 49) = false := by simp at qb ⊢; omega
  have e2' : (y == 49) = false := qb
  subst qa qc qd qe qf
  have HFI := zh (show Row w gl nr (W.set r (keptN 1 (y == 49) false)) by
   have e : keptN 1 (y == 49) false = 1 := by unfold keptN; rw [if_neg (by omega), e2', if_neg (by decide), if_neg (by omega), if_neg (by decide)]
   rw [e, uh HSA]; exact uh HRW)
  clear qb e2'
  go_wp2
  go_ret
  exact ⟨rfl, Only.refl _ _, uh HFI⟩
set_option maxRecDepth 100000 in
set_option maxHeartbeats 16000000 in
theorem kbegun_any (g : Nat) (L : Lay) (s lm : ByteArray) (gh gl nr m : Nat) (W : List Nat) (P : Nat -> Prop) (t0 t1 t2 t3 : ByteArray) (w : World) (h : ∀ wz, Only (fun b => b = gl) w wz -> KPl wz g L) (hh : w.heap[gh]? = some (z4s t0 t1 t2 t3)) (hnr : nr = L.rts.length)
  (hRow : Row w gl nr W) (hWl : W.length = nr) (hrt : nr <= 100) (hgh : gh ≠ gl) (hD : L.D <= 1000) (hbg : L.bgn <= s.size) (hs : s.size <= 64) (hm : s.size - L.bgn = 2 * m) (hs2 : t2.size = m) (hlm : lm.size = 0 \/ lm.size = nr) (hft : ∀ r, r < nr -> (L.rt r).foot < s.size)
  (hf : ∀ j, j < m -> pk (s.extract L.bgn s.size) (2 * j) = 99 -> pk t2 j = 107 -> 65 <= pk (s.extract L.bgn s.size) (2 * j + 1) /\ pk (s.extract L.bgn s.size) (2 * j + 1) - 65 < nr ∧
   (lm.size ≠ 0 -> pk lm (pk (s.extract L.bgn s.size) (2 * j + 1) - 65) = 103 -> pk s (L.rt (pk (s.extract L.bgn s.size) (2 * j + 1) - 65)).foot = 49 -> P (pk (s.extract L.bgn s.size) (2 * j + 1) - 65))) :
  Calls Tryz.prog 22 #[.pointer (some ⟨g, 0, none⟩), .slice (some ⟨gl, 0, none⟩) nr nr, .string s, .string lm, .pointer (some ⟨gh, 0, none⟩)] w fun e w' => e = .returned (.tuple #[]) /\ Only (fun b => b = gl) w w' ∧
   ∃ W', Row w' gl nr W' /\ W'.length = nr /\ ∀ r, W'.getD r 0 = W.getD r 0 \/ (W'.getD r 0 = L.D + 1 /\ P r) := by
 have HCM := zh (z30 g L s w (h w (Only.refl _ _)) hbg (by omega))
 have hcz : (s.extract L.bgn s.size).size = 2 * m := by rw [z1w]; exact hm
 have HKP := zh h
 have HHW := zh (fun (wz : World) (hz : Only (fun b => b = gl) w wz) => (z1i ((hz.block gh (z0c hh) (fun e => hgh e)).trans hh)))
 have HF := zh hf
 have HFT := zh hft
 have HR0 := zh hRow
 have HNR := zh hnr
 generalize s.extract L.bgn s.size = cs at *
 have hm32 : m <= 32 := by omega
 clear h hh hf hbg hm hRow hft hnr
 go_enter Tryz.func22, Tryz.ntmps22
 go_wp2_with fail
 refine (uh HCM).mono ?_
 rintro e w1 ⟨rfl, m1, hw1⟩
 have HO1 := zh (show Only (fun b => b = gl) w w1 by rw [hw1]; exact z47 (Only.refl _ _) _)
 have HR1 := zh (show Row w1 gl nr W by rw [hw1]; exact (uh HR0).below (below_drewN (Below.refl _ _) _))
 clear hw1 HCM HR0
 go_wp2
 go_loopw [11] (fun i wr => ∃ j : Nat, ∃ W', j <= m /\ i = .int .i64 (2 * j : Nat) /\ Only (fun b => b = gl) w wr /\ Row wr gl nr W' /\ W'.length = nr /\ ∀ r, W'.getD r 0 = W.getD r 0 \/ (W'.getD r 0 = L.D + 1 /\ P r)) (fun i _ => 2 * m - (intOf i).toNat)
 case atStart => exact ⟨0, W, Nat.zero_le _, rfl, uh HO1, uh HR1, hWl, fun _ => .inl rfl⟩
 case round =>
  clear HO1 HR1
  obtain ⟨j, W', hj, rfl, hor, hrow, hwl, hwp⟩ := hrel
  have HOR := zh hor
  have HRW := zh hrow
  have HWP := zh hwp
  by_cases hlt : j < m
  ·have HJ := zh (uh HF j hlt)
   obtain ⟨i, hi⟩ : ∃ i, i = 2 * j := ⟨_, rfl⟩
   have hi1 : i + 1 < cs.size := by omega
   have hi0 : i < cs.size := by omega
   have hj2 : j < t2.size := by omega
   rw [<- hi] at HJ ⊢
   obtain ⟨c, hc⟩ : ∃ c, (cs[i]'hi0).toNat = c := ⟨_, rfl⟩
   obtain ⟨y, hy⟩ : ∃ c, (cs[i + 1]'hi1).toNat = c := ⟨_, rfl⟩
   obtain ⟨z, hz⟩ : ∃ c, (t2[j]'hj2).toNat = c := ⟨_, rfl⟩
   rw [<- z0j cs i hi0, hc, <- z0j cs (i + 1) hi1, hy] at HJ
   rw [<- z0j t2 j hj2, hz] at HJ
   have hy256 : y < 256 := by rw [<- hy]; exact (cs[i + 1]'hi1).toNat_lt
   have ey : IntKind.i64.wrap (y : Int) = y := Go.IntWalk.i64_in _ (by omega)
   obtain ⟨⟨-, -, v2, -⟩, hv1⟩ := uh HHW wr hor
   have l1 : (i : Int) + 1 < cs.size := by omega
   have l2 : (i : Int) < cs.size := by omega
   have l3 : (0 : Int) <= i := by omega
   have l4 : (0 : Int) <= (i : Int) + 1 := by omega
   have l5 : (j : Int) < t2.size := by omega
   have l6 : (0 : Int) <= j := by omega
   have hii : i <= 200 := by omega
   have v1 : Int.tdiv (i : Int) 2 = j := by rw [show Int.tdiv (i : Int) 2 = ((i / 2 : Nat) : Int) from (Int.ofNat_tdiv i 2).symm]; omega
   have HNX := zh (show Value.int .i64 ((i : Int) + 2) = .int .i64 ((2 * (j + 1) : Nat) : Int) by congr 1; omega)
   have hme : 2 * m - ((i : Int) + 2).toNat < 2 * m - i := by omega
   clear hi
   by_cases h1 : c = 99
   case neg =>
    have b1 : ((c : Int) != 99) = true := by simp; omega
    clear HJ hor hrow hwp
    go_wp2
    exact ⟨⟨j + 1, W', by omega, uh HNX, uh HOR, uh HRW, hwl, uh HWP⟩, by simpa [intOf] using hme⟩
   subst h1
   by_cases h2 : z = 107
   case neg =>
    have b1 : ((z : Int) != 107) = true := by simp; omega
    clear HJ hor hrow hwp
    go_wp2
    exact ⟨⟨j + 1, W', by omega, uh HNX, uh HOR, uh HRW, hwl, uh HWP⟩, by simpa [intOf] using hme⟩
   subst h2
   obtain ⟨j1, j2, j3⟩ := uh HJ rfl rfl
   obtain ⟨r, hre⟩ : ∃ r, r = y - 65 := ⟨_, rfl⟩
   rw [<- hre] at j2 j3
   have eu : (y : Int) - 65 = r := by omega
   have br : r <= 100 := by omega
   by_cases h3 : lm.size = 0
   ·have ht3 : lm = ByteArray.empty := by
     apply ByteArray.ext
     exact Array.eq_empty_of_size_eq_zero h3
    subst ht3
    clear HJ hor hrow hwp j3 hre hlm h3
    go_wp2
    exact ⟨⟨j + 1, W', by omega, uh HNX, uh HOR, uh HRW, hwl, uh HWP⟩, by simpa [intOf] using hme⟩
   have hls : lm.size = nr := by rcases hlm with h | h; exact absurd h h3; exact h
   have hne3 : lm ≠ (⟨#[]⟩ : ByteArray) := fun e => by rw [e] at h3; exact h3 rfl
   have hne4 : ¬ lm.toList = [] := toList_ne h3
   have hne5 : lm.toList.isEmpty = false := by rw [List.isEmpty_eq_false_iff]; exact hne4
   have hne6 : (!lm.toList.isEmpty) = true := by rw [hne5]; rfl
   have j3 := j3 h3
   have krl : r < lm.size := by omega
   obtain ⟨u, hu⟩ : ∃ c, (lm[r]'krl).toNat = c := ⟨_, rfl⟩
   rw [<- z0j lm r krl, hu] at j3
   have l7 : (r : Int) < lm.size := by omega
   have l8 : (0 : Int) <= r := by omega
   clear h3 hlm
   by_cases h4 : u = 103
   case neg =>
    have b1 : ((u : Int) == 103) = false := by simp; omega
    clear HJ hor hrow hwp j3 hre
    go_wp2
    exact ⟨⟨j + 1, W', by omega, uh HNX, uh HOR, uh HRW, hwl, uh HWP⟩, by simpa [intOf] using hme⟩
   subst h4
   have j3 := j3 rfl
   have hr' : r < L.rts.length := by rw [<- uh HNR]; exact j2
   obtain ⟨vh, vp, vf, va, vk, vw, vs, vj, e, -, -, a3', -⟩ := uh HKP wr hor
   obtain ⟨⟨-, c1, -, -, -, c5, -⟩, hg⟩ := z0n e
   obtain ⟨af, cf, hvf, -, hrf⟩ := z3i a3'
   obtain ⟨gf, of_, rfl, hgf, xf⟩ := hrf r (by simpa using hr')
   rw [List.length_map, <- uh HNR] at hvf
   subst hvf
   have hfo : (L.rts.map (·.foot))[r]'(by simpa using hr') = (L.rt r).foot := by
    rw [List.getElem_map]; unfold Lay.rt; rw [z06 hr']
   rw [hfo] at xf
   have hfts := uh HFT r j2
   generalize (L.rt r).foot = ft at *
   obtain ⟨v, hv⟩ : ∃ c, (s[ft]'hfts).toNat = c := ⟨_, rfl⟩
   rw [<- z0j s ft hfts, hv] at j3
   have l9 : (ft : Int) < s.size := by omega
   have l10 : (0 : Int) <= ft := by omega
   have l11 : (r : Int) < nr := by omega
   by_cases h5 : v = 49
   case neg =>
    have b1 : ((v : Int) == 49) = false := by simp; omega
    clear HJ hor hrow hwp j3 hre e a3' hrf hfo
    go_wp2
    exact ⟨⟨j + 1, W', by omega, uh HNX, uh HOR, uh HRW, hwl, uh HWP⟩, by simpa [intOf] using hme⟩
   subst h5
   have hP := j3 rfl
   have xw := hrow.cell j2 hwl
   have zw := hrow.frozen r
   have hgl := hrow.lt
   generalize W'.getD r 0 = w9 at *
   obtain ⟨d1, hd1⟩ : ∃ d, d = L.D + 1 := ⟨_, rfl⟩
   obtain ⟨D0, hD0⟩ : ∃ d, d = L.D := ⟨_, rfl⟩
   rw [<- hD0] at c1 hD
   have ed : (D0 : Int) + 1 = d1 := by omega
   have HFI := zh (show (∃ W'', Row (wr.setCell ⟨gl, r, none⟩ (.int .i64 (d1 : Nat))) gl nr W'' /\ W''.length = nr /\ ∀ r, W''.getD r 0 = W.getD r 0 \/ (W''.getD r 0 = L.D + 1 /\ P r)) by
    refine ⟨W'.set r d1, hrow.set r d1, by rw [List.length_set]; exact hwl, fun r' => ?_⟩
    by_cases er : r' = r
    ·subst er
     right
     rw [z0p _ _ _ _ _ (by omega), if_pos rfl]
     exact ⟨hd1, hP⟩
    ·rw [z0z _ _ _ _ _ er]
     exact hwp r')
   have HOO := zh (hor.trans (only_gl wr gl r (.int .i64 (d1 : Nat))))
   clear HJ hor hrow hwp j3 hre e a3' hrf hfo hP hd1 hD0
   go_wp2
   obtain ⟨W9, k1, k2, k3⟩ := uh HFI
   exact ⟨⟨j + 1, W9, by omega, uh HNX, uh HOO, k1, k2, k3⟩, by simpa [intOf] using hme⟩
  ·have l1 : ¬ ((2 * j : Nat) : Int) + 1 < cs.size := by omega
   have l1' : decide (((2 * j : Nat) : Int) + 1 < cs.size) = false := by simp; omega
   have l7 : j <= 200 := by omega
   clear hor hrow hwp
   go_wp2
   refine bodyPost_end (v := .tuple #[]) (by simp [results, Tryz.results22, go_sem]) rfl ?_
   exact ⟨rfl, uh HOR, W', uh HRW, hwl, uh HWP⟩
theorem KRun.be4 {n : Nat} {w0 w : World} {D R : Nat -> Prop} {gb gp : Nat} {L : Lay} {C : RBx} (_h : KRun n w0 w D R gb gp L C) (hW : BeOK C) (s : ByteArray) : BeOK (C.cyc s) := by
 by_cases hf : C.L.frameB s = true
 ·have e : C.cyc s = C.s4 (C.L.frOf s) := by unfold RBx.cyc; rw [if_pos hf]
  rw [e]; exact hW.s4 _
 ·have e : C.cyc s = C := by unfold RBx.cyc; rw [if_neg hf]
  rw [e]; exact hW
def keptL (L : Lay) (s : ByteArray) (W : List Nat) : List Nat := (List.range L.rts.length).map (fun r => keptN (W.getD r 0) (in0B L s r) (freeS L s r))
theorem keptL_len (L : Lay) (s : ByteArray) (W : List Nat) : (keptL L s W).length = L.rts.length := by unfold keptL; simp
theorem keptL_get (L : Lay) (s : ByteArray) (W : List Nat) {r : Nat} (hr : r < L.rts.length) : (keptL L s W).getD r 0 = keptN (W.getD r 0) (in0B L s r) (freeS L s r) := by
 unfold keptL
 rw [z06 (by simpa using hr), List.getElem_map, List.getElem_range]
theorem HeldI.le {C : RBx} {W : List Nat} (h : HeldI C W) (hi : Inv C) (r : Nat) : W.getD r 0 <= 1001 := by
 rcases Nat.lt_or_ge r C.L.rts.length with hr | hr
 ·rcases h.2 r hr with e | ⟨-, e⟩
  ·omega
  ·have := (hi.li r hr).ct; omega
 ·rw [List.getD_eq_getElem?_getD, List.getElem?_eq_none (by rw [h.1]; exact hr)]; simp
theorem held_next {C : RBx} {s : ByteArray} (S : Stgs C (C.L.frOf s)) (hi : Inv C) (hJ : KJ (C.s4 (C.L.frOf s))) (hf : C.L.frameB s = true) {W W' : List Nat} (hH : HeldI C W) (hl : W'.length = C.L.rts.length)
  (h : ∀ r, W'.getD r 0 = (keptL C.L s W).getD r 0 \/ (W'.getD r 0 = C.L.D + 1 /\ BegP C (C.L.frOf s) r)) : HeldI (C.s4 (C.L.frOf s)) W' := by
 refine ⟨by rw [S.l4]; exact hl, fun r hr => ?_⟩
 rw [S.l4] at hr
 rcases h r with e | ⟨e, hb⟩
 ·rw [e, keptL_get _ _ _ hr]
  exact (kept_facts S hi hJ hf hH hr).2
 ·right
  rw [e]
  exact ⟨hb.1, by rw [hb.2]⟩
theorem kept_run {n : Nat} {w0 w : World} {D R : Nat -> Prop} {gb gp : Nat} {L : Lay} {C : RBx} (h : KRun n w0 w D R gb gp L C) (hJ : KJ C) {s : ByteArray} (hf : C.L.frameB s = true) {W : List Nat} (hH : HeldI C W) {r nr : Nat} (hnr : nr = L.rts.length) (hr : r < nr) (gh gt gl : Nat) (hgh : gh ≠ gl) (hgt : gt ≠ gl) (wz : World) (hkp : KPl wz gp L)
  (hh : wz.heap[gh]? = some (z4s (laS C s) (moS C s) (anS C s) (grS C s))) (ha : wz.heap[gt]? = some (toldO (lkS (C.cyc s)) (phS (C.cyc s)) (swS (C.cyc s)) (atS (C.cyc s)) (quS (C.cyc s)))) (hrow : Row wz gl nr (mixN (keptL L s W) W r)) :
  Calls Tryz.prog 21 #[.pointer (some ⟨gp, 0, none⟩), .int .i64 r, .slice (some ⟨gl, 0, none⟩) nr nr, .string s, .pointer (some ⟨gh, 0, none⟩), .pointer (some ⟨gt, 0, none⟩)] wz fun e w' => e = .returned (.bool true) /\ Only (fun b => b = gl) wz w' ∧
   Row w' gl nr (mixN (keptL L s W) W (r + 1)) := by
 obtain ⟨S, e4⟩ := h.stg hf
 have hJ4 := h.kj hJ s
 have hHO := h.hear hf
 have hi := h.box.inv
 have eL := h.eL
 subst eL
 rw [e4] at hJ4 ha
 have hA := S.i4.askOK
 rw [S.l4] at hA
 have hg := (z2t C.L s).1 hf
 have hr' : r < C.L.rts.length := by omega
 have hWl : W.length = nr := by rw [hH.1, hnr]
 have hkl : (keptL C.L s W).length = W.length := by rw [keptL_len, hH.1]
 obtain ⟨f1, -⟩ := kept_facts S hi hJ4 hf hH hr'
 have hmg := mixN_get hkl (k := r) (by omega)
 have hge := hg.ge
 unfold Lay.bgn at hge
 have := kkept_yes gp C.L r s gh gt gl nr (mixN (keptL C.L s W) W r) _ _ _ _ _ _ _ _ _ wz hkp hh ha hnr hrow (by rw [mixN_len hkl (by omega)]; exact hWl) hr (by rw [hnr]; exact hA.rt) (by rw [hmg]; have := hH.le hi r; omega) hgh hgt (path_sw hi hr') (path_pos hi hr') (by omega) (by have := hg.le; omega) (by rw [hHO.s0, hnr]) hA.s0 (by rw [hA.s1, hnr]) (by rw [hmg]; exact f1)
 rw [hmg, <- keptL_get C.L s W hr', mixN_set hkl (by omega)] at this
 exact this
theorem begun_run {n : Nat} {w0 w : World} {D R : Nat -> Prop} {gb gp : Nat} {L : Lay} {C : RBx} (h : KRun n w0 w D R gb gp L C) (hJ : KJ C) (hB : BeOK C) {s lm : ByteArray} (hf : C.L.frameB s = true) (hl : LampI C lm) {W : List Nat} (hH : HeldI C W) {nr : Nat} (hnr : nr = L.rts.length) (gh gl : Nat) (hgh : gh ≠ gl) (wz : World) (hkp : ∀ wy, Only (fun b => b = gl) wz wy -> KPl wy gp L)
  (hh : wz.heap[gh]? = some (z4s (laS C s) (moS C s) (anS C s) (grS C s))) (hrow : Row wz gl nr (keptL L s W)) :
  Calls Tryz.prog 22 #[.pointer (some ⟨gp, 0, none⟩), .slice (some ⟨gl, 0, none⟩) nr nr, .string s, .string lm, .pointer (some ⟨gh, 0, none⟩)] wz fun e w' => e = .returned (.tuple #[]) /\ Only (fun b => b = gl) wz w' ∧
   ∃ W', Row w' gl nr W' /\ HeldI (C.cyc s) W' := by
 obtain ⟨S, e4⟩ := h.stg hf
 have hJ4 := h.kj hJ s
 have hHO := h.hear hf
 have hi := h.box.inv
 have eL := h.eL
 subst eL
 rw [e4] at hJ4 ⊢
 have hg := (z2t C.L s).1 hf
 obtain ⟨z1, z2, z3, -, -⟩ := z3d C.L s hf
 have hcs : (C.L.frOf s).cmds = s.extract C.L.bgn s.size := rfl
 have hge := hg.ge
 have hf2 := fun j hj h1 h2 => begun_facts S hB hl (j := j) hj h1 h2
 rw [hcs, <- hnr] at hf2
 have hrl := hi.lay.rl
 have hDD := hi.lay.D
 refine (kbegun_any gp C.L s lm gh gl nr ((C.L.frOf s).cmds.size / 2) (keptL C.L s W) (BegP C (C.L.frOf s)) _ _ _ _ wz hkp hh hnr hrow (by rw [keptL_len, hnr]) (by omega) hgh (by omega) hge z1 (by rw [z3]; omega) (by rw [hHO.s2, z3]) (by rcases hl with h | ⟨h, -⟩; exact .inl h; exact .inr (by rw [h, hnr])) (fun r hr => ?_) (fun j hj h1 h2 => hf2 j (by rw [<- hcs]; exact hj) h1 h2)).mono ?_
 ·have := (hi.rt (r := r) (by omega)).foot
  unfold Lay.bgn at hge
  omega
 ·rintro e w' ⟨e1, e2, W', e3, e5, e6⟩
  exact ⟨e1, e2, W', e3, held_next S hi hJ4 hf hH (by rw [e5, hnr]) e6⟩
def KHe (n : Nat) (w wr : World) (R : Nat -> Prop) (gb gp gl nr : Nat) (L : Lay) (lm : ByteArray) : Prop := ∃ C D W, KRun n w wr D R gb gp L C /\ KJ C /\ BeOK C /\ Row wr gl nr W /\ HeldI C W /\ LampI C lm /\ ¬ D gl
set_option maxRecDepth 100000 in
set_option maxHeartbeats 16000000 in
theorem Held_any (s : ByteArray) (ao : Option Addr) (len cap : Nat) (zs : List ByteArray) (w : World) (hF : FrsOK w ao len zs) :
  Calls Tryz.prog 6 #[.string s, .slice ao len cap] w fun e w' => e = .returned (.bool true) /\ Below w.heap.size w w' := by
 have H1 := zh (z2o s w)
 obtain ⟨⟨hlm, hF⟩, hsz⟩ := hF
 unfold maxLen at hlm
 have HFR := zh hF
 have HSZ := zh hsz
 clear hF hsz
 go_enter Tryz.func6, Tryz.ntmps6
 go_wp2_with fail
 refine (uh H1).mono ?_
 rintro e w1 hOp
 rcases hOp with ⟨-, rfl, hb1⟩ | ⟨h0, gb, gp, D, R, rfl, hK⟩
 ·have HB1 := zh hb1
  clear hb1
  go_wp2
  go_ret
  exact ⟨rfl, uh HB1⟩
 ·have HK0 := zh hK
  obtain ⟨vh, vp, vf, va, vk, vw, vs, vj, ek, -, -, x3, -⟩ := hK.plan.at
  obtain ⟨⟨-, -, -, -, -, c5, -⟩, hgg⟩ := z0n ek
  obtain ⟨ap, cp, rfl, -⟩ := SlAt.open x3
  rw [List.length_map] at c5
  obtain ⟨nr, hnr⟩ : ∃ n, n = (layOf s.data.toList).rts.length := ⟨_, rfl⟩
  rw [<- hnr] at c5
  have hpb : nr <= 100 := by
   have h1 := hK.box.inv.lay.rl
   rw [hK.eL] at h1
   omega
  obtain ⟨i0, hi0⟩ := info_parts Tryz.infoInt
  have hmk := fun (wz : World) => run_make (P := Tryz.prog) wz 49 3 i0 (.int .i64 0) Tryz.underlying49 hi0.1 hi0.2.1 .i64 .i64 (nr : Int) (nr : Int) (by omega) (by omega) (by rw [hi0.2.2.2]; omega) (by omega)
  rw [hi0.2.2.1] at hmk
  simp only [Int.toNat_natCast, Nat.mul_one] at hmk
  have HB0 := zh (z02 w1 (.cells (madeCells #[.int .i64 0] nr) 3))
  obtain ⟨gl, hgl⟩ : ∃ g, g = w1.heap.size := ⟨_, rfl⟩
  have HR0 := zh (show Row (w1.alloc (.cells (madeCells #[.int .i64 0] nr) 3)) gl nr (List.replicate (layOf s.data.toList).rts.length 0) from by rw [<- hnr, hgl]; exact own_made w1 0 nr (Nat.zero_le _) (by unfold maxLen; omega))
  have HNR := zh hnr
  have HRL := zh (show ¬ R gl from fun hr => by have := hK.plan.1 gl hr; omega)
  have HDL := zh (show ¬ D gl from fun hr => by have := hK.box.lt gl hr; omega)
  have HNL := zh (show w.heap.size <= gl by have := hK.be.size; omega)
  have HM0 := zh (show KHe w.heap.size w (w1.alloc (.cells (madeCells #[.int .i64 0] nr) 3)) R gb gp gl nr (layOf s.data.toList) ByteArray.empty from ⟨_, D, _, (uh HK0).below (uh HB0) (Nat.le_refl _), KJ.init _, BeOK.init _, uh HR0, HeldI.init _, .inl rfl, uh HDL⟩)
  clear hK H1 h0 ek x3 hnr hi0
  go_wp2
  rw [<- hgl]
  generalize layOf s.data.toList = L at *
  clear HK0 hgl HB0 HR0 HDL c5 hgg hmk
  go_loopw [9, 10] (fun v i wr => ∃ m : Nat, ∃ lm : ByteArray, v = .string lm /\ i = .int .i64 m /\ m <= len /\ KHe w.heap.size w wr R gb gp gl nr L lm) (fun _ i _ => len - (intOf i).toNat)
  case atStart => exact ⟨0, ByteArray.empty, rfl, rfl, Nat.zero_le _, uh HM0⟩
  case round =>
   obtain ⟨m, lm, rfl, rfl, hm, hM⟩ := hrel
   by_cases hlt : m < len
   ·obtain ⟨C, D, W, hK, hJ, hBe, hrow, hHI, hLI, hdl⟩ := hM
    rcases uh HFR with h | ⟨g, off, rfl, hc⟩
    ·omega
    have hcm0 := hc m hlt
    have hbk : g < w.heap.size := by
     rcases Nat.lt_or_ge g w.heap.size with h | h
     ·exact h
     ·unfold World.cell? at hcm0
      simp [Array.getElem?_eq_none h] at hcm0
    have hszm := uh HSZ m
    generalize zs.getD m ByteArray.empty = fr at *
    have hcm : ∀ wz, Below w.heap.size w wz -> wz.cell? ⟨g, off + m, none⟩ = some (.string fr) := fun wz hz => (hz.cell (p := ⟨g, off + m, none⟩) hbk).trans hcm0
    have hgz : ∀ wz, Below w.heap.size w wz -> g < wz.heap.size := fun wz hz => by have := hz.size; omega
    have HCM := zh hcm
    have HGZ := zh hgz
    have c1 := hcm wr hK.be
    have g1 := hgz wr hK.be
    have l0 : (0 : Int) <= m := by omega
    have l1 : (m : Int) < len := by omega
    have HC := zh (hK.cyc (Nat.le_refl _) fr)
    have HK := zh hK
    have HJ := zh hJ
    have HBE := zh hBe
    have HJ2 := zh (hK.kj hJ fr)
    have HBE2 := zh (hK.be4 hBe fr)
    have HHI := zh hHI
    have HLI := zh hLI
    have HRW := zh hrow
    have HDL := zh hdl
    clear hc hcm0 hcm hgz hK hJ hBe hHI hLI hrow hdl HM0
    go_wp2_with fail
    refine (uh HC).mono ?_
    rintro e w2 ⟨rfl, hK2, ho2⟩
    have HK2 := zh hK2
    have HRW2 := zh ((uh HRW).only ho2 (uh HDL))
    have HDL2 := zh (show ¬ grow D wr w2 gl from fun hd => by
     rcases hd with hd | hd
     ·exact uh HDL hd
     ·have := (uh HRW).lt; omega)
    have c2 := uh HCM w2 hK2.be
    have g2 := uh HGZ w2 hK2.be
    have HH := zh (z5e (w := w2) (uh HK) hK2.plan.at fr hszm)
    clear hK2 ho2 c1 g1 HC
    go_wp2_with fail
    refine (uh HH).mono ?_
    rintro e w3 hH
    rcases hH with ⟨hf, gh, rfl, hgh, hho, hb3⟩ | ⟨hf, rfl, hb3⟩
    ·have HK3 := zh ((uh HK2).below hb3 (Nat.le_refl _))
     have HA := zh ((uh HK3).ask)
     have HHO := zh hho
     have HF := zh hf
     have HRW3 := zh ((uh HRW2).below hb3)
     have hz3 := hb3.size
     clear hho hb3 c2 g2 HH hf
     go_wp2_with fail
     refine (uh HA).mono ?_
     rintro e w4 ⟨gt, rfl, hgt, hto, hb4⟩
     have HK4 := zh ((uh HK3).below hb4 (Nat.le_refl _))
     have HHO4 := zh ((hb4.block gh (z0c (uh HHO))).trans (uh HHO))
     have HRW4 := zh ((uh HRW3).below hb4)
     have HTO := zh hto
     have hgl3 := (uh HRW3).lt
     have hgl2 := (uh HRW2).lt
     have HGH := zh (show gh ≠ gl by omega)
     have HGT := zh (show gt ≠ gl by omega)
     have HKB := zh (fun (wz : World) (hz : Only (fun b => b = gl) w4 wz) => (uh HK4).onlyG hz (uh HDL2) (uh HRL) (uh HNL) (Nat.le_refl _))
     have HHZ := zh (fun (wz : World) (hz : Only (fun b => b = gl) w4 wz) => (hz.block gh (z0c (uh HHO4)) (fun e => uh HGH e)).trans (uh HHO4))
     have HTZ := zh (fun (wz : World) (hz : Only (fun b => b = gl) w4 wz) => (hz.block gt (z0c (uh HTO)) (fun e => uh HGT e)).trans (uh HTO))
     have HKE := zh (fun (r : Nat) (hr : r < nr) (wz : World) (hz : Only (fun b => b = gl) w4 wz) (hrow : Row wz gl nr (mixN (keptL L fr W) W r)) => kept_run (uh HK) (uh HJ) (uh HF) (uh HHI) (uh HNR) hr gh gt gl (uh HGH) (uh HGT) wz (uh HKB wz hz).plan.at (uh HHZ wz hz) (uh HTZ wz hz) hrow)
     have HBG := zh (fun (wz : World) (hz : Only (fun b => b = gl) w4 wz) (hrow : Row wz gl nr (keptL L fr W)) => begun_run (uh HK) (uh HJ) (uh HBE) (uh HF) (uh HLI) (uh HHI) (uh HNR) gh gl (uh HGH) wz (fun wy hy => (uh HKB wy (hz.trans hy)).plan.at) (uh HHZ wz hz) hrow)
     have HWH := zh (fun (r : Nat) (hr : r < nr) (wz : World) (hz : Only (fun b => b = gl) w4 wz) => kwhole_any gp L r (lkS (C.cyc fr)) wz (uh HKB wz hz).plan.at (by rw [<- uh HNR]; exact hr) (by rw [<- uh HNR]; exact hpb) (fun x hx => by
      have h1 := (uh HK4).box.inv.askOK.s0
      rw [(uh HK4).eL] at h1
      rw [h1]
      have h2 := path_sw (uh HK4).box.inv (r := r) (by rw [(uh HK4).eL, <- uh HNR]; exact hr) x
      rw [(uh HK4).eL] at h2
      exact h2 hx))
     have hA1 := (uh HK4).box.inv.askOK
     rw [(uh HK4).eL] at hA1
     have hHO := (uh HK).hear (uh HF)
     have z0 := hHO.s0
     have z1 := hA1.s1
     rw [(uh HK).eL, <- uh HNR] at z0
     rw [<- uh HNR] at z1
     have HLL := zh (show W.length = nr /\ (keptL L fr W).length = W.length by
      have h1 := (uh HHI).1
      rw [(uh HK).eL, <- uh HNR] at h1
      exact ⟨h1, by rw [keptL_len, h1, uh HNR]⟩)
     have HDT := zh (fun (r : Nat) (hr : r < nr) (h : ((C.cyc fr).line r).ph = 100) => show DropT L (laS C fr) (lkS (C.cyc fr)) (phS (C.cyc fr)) r by
      obtain ⟨S, e4⟩ := (uh HK).stg (uh HF)
      have hJ4 := uh HJ2
      have eL := (uh HK).eL
      rw [e4] at h hJ4 ⊢
      have := drop_told S hJ4 (r := r) (by rw [eL, <- uh HNR]; exact hr) h
      rw [show L = C.L from eL.symm]
      exact this)
     have HLN := zh (show LampI (C.cyc fr) (laS C fr) by
      obtain ⟨S, e4⟩ := (uh HK).stg (uh HF)
      rw [e4]; exact lampI_next S)
     have hDD := (uh HK).box.inv.lay.D
     rw [(uh HK).eL] at hDD
     obtain ⟨vh, vp, vf, va, vk, vw, vs, vj, ek, -, -, x3, -⟩ := (uh HK4).plan.at
     have HKO := zh ek
     obtain ⟨af, cf, rfl, -⟩ := SlAt.open x3
     rw [List.length_map, <- uh HNR] at HKO
     have HPG := zh (show gp ≠ gl from fun e => by
      have h1 := (uh HKO)
      have h2 := (uh HRW4)
      rcases h2.2 with ⟨h3, -⟩ | ⟨g', cap', cur, h3, -, h4, -⟩
      ·cases h3
      ·simp only [Value.slice.injEq, Option.some.injEq, Addr.mk.injEq] at h3
       obtain ⟨⟨rfl, -⟩, -⟩ := h3
       rw [e] at h1
       rw [h1] at h4
       unfold kobj at h4
       simp at h4)
     have HPZ := zh (fun (wz : World) (hz : Only (fun b => b = gl) w4 wz) => (hz.block gp (z0c (uh HKO)) (fun e => uh HPG e)).trans (uh HKO))
     clear hto hb4 ek x3 HA hz3 hgl3 hgl2 hA1 hHO
     go_wp2
     go_loopw [16] (fun i wq => ∃ r : Nat, i = .int .i64 r /\ r <= nr /\ Only (fun b => b = gl) w4 wq /\ Row wq gl nr (mixN (keptL L fr W) W r)) (fun i _ => nr - (intOf i).toNat)
     case atStart => exact ⟨0, rfl, Nat.zero_le _, Only.refl _ _, uh HRW4⟩
     case round =>
      obtain ⟨r, rfl, hr, hoq, hrw⟩ := hrel
      have HOQ := zh hoq
      have hbe := (uh HKB wr hoq).be
      have c3 := uh HCM wr hbe
      have g3 := uh HGZ wr hbe
      obtain ⟨⟨-, -, -, -, -, c5, -⟩, hgg⟩ := z0n (uh HPZ wr hoq)
      by_cases hrt : r < nr
      ·have HKR := zh (uh HKE r hrt wr hoq hrw)
       have l2 : (r : Int) < nr := by omega
       clear hoq hrw hbe
       go_wp2_with fail
       refine (uh HKR).mono ?_
       rintro e w5 ⟨rfl, ho5, hr5⟩
       have HO5 := zh ((uh HOQ).trans ho5)
       have HR5 := zh hr5
       clear ho5 hr5
       go_wp2
       exact ⟨⟨r + 1, by go_num, by omega, uh HO5, uh HR5⟩, by simp [intOf]; omega⟩
      ·have l2 : ¬ (r : Int) < nr := by omega
       obtain ⟨hl1, hl2⟩ := uh HLL
       have hrl : r = W.length := by omega
       rw [hrl, mixN_end hl2] at hrw
       have HBR := zh (uh HBG wr hoq hrw)
       clear hoq hrw hbe hrl
       go_wp2_with fail
       refine (uh HBR).mono ?_
       rintro e w6 ⟨rfl, ho6, W', hr6, hH6⟩
       have HO6 := zh ((uh HOQ).trans ho6)
       have HR6 := zh hr6
       have HH6 := zh hH6
       clear ho6 hr6 hH6 c3 g3 c5 hgg
       go_wp2
       go_loopw [18] (fun i wq => ∃ r : Nat, i = .int .i64 r /\ r <= nr /\ Only (fun b => b = gl) w4 wq /\ Row wq gl nr W') (fun i _ => nr - (intOf i).toNat)
       case atStart => exact ⟨0, rfl, Nat.zero_le _, uh HO6, uh HR6⟩
       case round =>
        obtain ⟨r2, rfl, hr2, hoq, hrw⟩ := hrel
        have HO7 := zh hoq
        have HR7 := zh hrw
        obtain ⟨⟨-, d1, -, -, -, c5, -⟩, hgg⟩ := z0n (uh HPZ wr hoq)
        obtain ⟨⟨y0, -⟩, hgh7⟩ := z1i (uh HHZ wr hoq)
        obtain ⟨⟨z00, z11, -⟩, -, hgt7⟩ := z0m (uh HTZ wr hoq)
        by_cases hrt2 : r2 < nr
        ·have HWR := zh (uh HWH r2 hrt2 wr hoq)
         change Hid (Calls _ _ _ _ (fun e w' => e = .returned (.bool (allB L (lkS (C.cyc fr)) r2)) /\ w' = wr)) at HWR
         have hwl6 : W'.length = nr := by
          have h1 := (uh HH6).1
          rw [(uh HK4).eL, <- uh HNR] at h1
          exact h1
         have xw := hrw.cell hrt2 hwl6
         have hgl7 := hrw.lt
         have hle := (uh HH6).le (uh HK4).box.inv r2
         have hcase : W'.getD r2 0 ≠ L.D + 1 \/ (W'.getD r2 0 = L.D + 1 /\ DropT L (laS C fr) (lkS (C.cyc fr)) (phS (C.cyc fr)) r2) := by
          by_cases e : W'.getD r2 0 = L.D + 1
          ·right
           rcases (uh HH6).2 r2 (by rw [(uh HK4).eL, <- uh HNR]; exact hrt2) with h | ⟨h, -⟩
           ·omega
           ·exact ⟨e, uh HDT r2 hrt2 h⟩
          ·exact .inl e
         unfold DropT at hcase
         have kt : r2 < (laS C fr).size := by omega
         have ka : r2 < (phS (C.cyc fr)).size := by omega
         obtain ⟨u, hu⟩ : ∃ c, ((laS C fr)[r2]'kt).toNat = c := ⟨_, rfl⟩
         obtain ⟨p, hp⟩ : ∃ c, ((phS (C.cyc fr))[r2]'ka).toNat = c := ⟨_, rfl⟩
         rw [<- z0j _ r2 kt, <- z0j _ r2 ka, hu, hp] at hcase
         generalize allB L (lkS (C.cyc fr)) r2 = av at *
         generalize W'.getD r2 0 = wv at *
         obtain ⟨D0, hD0⟩ : ∃ d, d = L.D := ⟨_, rfl⟩
         rw [<- hD0] at d1 hcase hDD
         obtain ⟨D1, hD1⟩ : ∃ d, d = D0 + 1 := ⟨_, rfl⟩
         rw [<- hD1] at hcase
         have ed : (D0 : Int) + 1 = D1 := by omega
         have l3 : (r2 : Int) < nr := by omega
         have l4 : (0 : Int) <= r2 := by omega
         have l5 : (r2 : Int) < (laS C fr).size := by omega
         have l6 : (r2 : Int) < (phS (C.cyc fr)).size := by omega
         have bD : D1 <= 1000 := by omega
         clear hoq hrw hwl6 hD0 hD1
         go_wp2_with fail
         refine (uh HWR).mono ?_
         rintro e w7 ⟨rfl, rfl⟩
         rcases hcase with hne | ⟨he, e1, e2, e3⟩
         ·have b1 : ((wv : Int) == (D1 : Int)) = false := by simp; omega
          clear hne
          go_wp2
          go_quiet (fail)
          go_wp2
          exact ⟨⟨r2 + 1, by go_num, by omega, z47 (uh HO7) _, (uh HR7).below (below_drewN (Below.refl _ _) _)⟩, by simp [intOf]; omega⟩
         ·subst he e1 e2 e3
          go_wp2
          go_quiet (fail)
          go_wp2
          exact ⟨⟨r2 + 1, by go_num, by omega, z47 (uh HO7) _, (uh HR7).below (below_drewN (Below.refl _ _) _)⟩, by simp [intOf]; omega⟩
        ·have l3 : ¬ (r2 : Int) < nr := by omega
         have HKM := zh (show KHe w.heap.size w wr R gb gp gl nr L (laS C fr) from ⟨_, _, _, uh HKB wr hoq, uh HJ2, uh HBE2, hrw, uh HH6, uh HLN, uh HDL2⟩)
         clear hoq hrw
         go_wp2
         exact ⟨⟨m + 1, laS C fr, rfl, by go_num, by omega, uh HKM⟩, by simp [intOf]; omega⟩
    ·have HK3 := zh ((uh HK2).below hb3 (Nat.le_refl _))
     have HA := zh ((uh HK3).ask)
     have hz3 := hb3.size
     have e2 : C.cyc fr = C := by unfold RBx.cyc; rw [if_neg (by simp [hf])]
     have HRW3 := zh ((uh HRW2).below hb3)
     have HHI2 := zh (show HeldI (C.cyc fr) W by rw [e2]; exact uh HHI)
     have HLI2 := zh (show LampI (C.cyc fr) lm by rw [e2]; exact uh HLI)
     clear hb3 c2 g2 HH hf e2
     go_wp2_with fail
     refine (uh HA).mono ?_
     rintro e w4 ⟨gt, rfl, hgt, hto, hb4⟩
     have HKM := zh (show KHe w.heap.size w w4 R gb gp gl nr L lm from ⟨_, _, _, (uh HK3).below hb4 (Nat.le_refl _), uh HJ2, uh HBE2, (uh HRW3).below hb4, uh HHI2, uh HLI2, uh HDL2⟩)
     clear hto hb4 HA hz3
     go_wp2
     exact ⟨⟨m + 1, lm, rfl, by go_num, by omega, uh HKM⟩, by simp [intOf]; omega⟩
   ·have l1 : ¬ (m : Int) < len := by omega
    have HB := zh (show Below w.heap.size w wr by obtain ⟨C, D, W, hK, -⟩ := hM; exact hK.be)
    clear hM HM0
    go_wp2
    go_ret
    exact ⟨rfl, uh HB⟩
end Go.Proofs.YtkbpocecbcaiiabGreatDoor
