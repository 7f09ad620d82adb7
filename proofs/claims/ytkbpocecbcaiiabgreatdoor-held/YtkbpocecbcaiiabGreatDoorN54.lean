import Derived.Test.YtkbpocecbcaiiabGreatDoorN53
namespace Go.Proofs.YtkbpocecbcaiiabGreatDoor
open Go.RowKit
def WtP (p : Nat) : Prop := p = 119 \/ p = 103
def WtOK (C : RBx) : Prop := ∀ r, WtP (C.line r).ph -> ∀ x, C.L.wantsF r x ≠ 0 -> C.wanted.getD x 0 = C.L.wantsF r x
theorem put_or (C : RBx) (k r : Nat) (x : RLn) : (C.put k x).line r = x \/ (C.put k x).line r = C.line r := by
 by_cases e : r = k
 ·by_cases hl : k < C.lines.length
  ·left; rw [z17 C k r x hl, if_pos e]
  ·right
   unfold RBx.put RBx.line
   simp only
   rw [List.set_eq_of_length_le (by omega)]
 ·right; exact z4v _ _ _ e
theorem z5f {C : RBx} {f : Fr} {t : Nat} (hg : C.grantB f t = true) : (C.grant f t).sta = C.more t := by
 unfold RBx.grant
 rw [if_pos hg]
 exact (rwantN_pres ({ C with sta := C.more t } : RBx) (C.nxt t) C.L.sw.length).2.2.1
theorem z5g {C : RBx} {f : Fr} {t : Nat} (hg : C.grantB f t = true) : C.free f (C.nxt t) = true := by unfold RBx.grantB at hg; simp at hg; exact hg.1.2
theorem grantN_L (C : RBx) (f : Fr) : ∀ k, (C.grantN f k).L = C.L
 | 0 => rfl
 | k + 1 => (grant_L (C.grantN f k) f _).trans (grantN_L C f k)
theorem serv_take (C : RBx) (f : Fr) : ∀ k, k <= C.waits.length -> ∀ t, t ∈ C.servN f k -> t ∈ C.waits.take k
 | 0, _, t, h => by simp [RBx.servN] at h
 | k + 1, hk, t, h => by
  rw [List.take_succ_eq_append_getElem (by omega)]
  unfold RBx.servN at h
  split at h
  ·rcases List.mem_append.1 h with h | h
   ·exact List.mem_append_left _ (serv_take C f k (by omega) t h)
   ·refine List.mem_append_right _ ?_
    rw [z06 (by omega)] at h
    exact h
  ·exact List.mem_append_left _ (serv_take C f k (by omega) t h)
theorem flat_pts (sw : List Bool) : ∀ (n : Nat) (v : Nat -> Nat), (List.range sw.length).flatMap (fun i => if sw.getD i false then [v (n + i)] else []) = (z09 n sw).map v := by
 induction sw with
 | nil => intro n v; rfl
 | cons b l ih =>
  intro n v
  rw [List.length_cons, List.range_succ_eq_map, List.flatMap_cons, List.flatMap_map]
  have e : (List.range l.length).flatMap (fun a => if (b :: l).getD (a + 1) false then [v (n + (a + 1))] else []) = (z09 (n + 1) l).map v := by
   rw [<- ih (n + 1) v]
   congr 1
   funext a
   have : n + (a + 1) = n + 1 + a := by omega
   rw [this]; rfl
  have e' : (List.range l.length).flatMap (fun a => if (b :: l).getD (Nat.succ a) false then [v (n + Nat.succ a)] else []) = (z09 (n + 1) l).map v := e
  rw [e']
  cases b with
  | true =>
   have e2 : z09 n (true :: l) = n :: z09 (n + 1) l := by rw [z09, if_pos rfl]
   rw [e2]; rfl
  | false =>
   have e2 : z09 n (false :: l) = z09 (n + 1) l := by rw [z09, if_neg (by simp)]
   rw [e2]; rfl
theorem sw_text (C : RBx) : C.switchesT = (z09 0 C.L.sw).map (fun s => if C.failed.getD s false then 120 else C.wanted.getD s 0) := by
 rw [<- flat_pts]
 unfold RBx.switchesT RBx.swT
 simp only [Nat.zero_add]
theorem pts_sw {L : Lay} {x : Nat} (h : x ∈ z09 0 L.sw) : L.sw.getD x false = true := by
 have := ((pts_mem L.sw 0 x).1 h).2
 rw [Nat.sub_zero] at this
 exact this
theorem sw_pk {C : RBx} (hW : WantOK C) {k : Nat} (hk : k < (z09 0 C.L.sw).length) : pk (swS C) k = if C.failed.getD (z09 0 C.L.sw)[k] false then 120 else C.wanted.getD (z09 0 C.L.sw)[k] 0 := by
 unfold swS
 have hs : ∀ x, x ∈ C.switchesT -> x < 256 := by
  intro x hx
  rw [sw_text] at hx
  obtain ⟨y, hy, rfl⟩ := List.mem_map.1 hx
  have := hW y (pts_sw hy)
  split <;> omega
 rw [z26 hs, sw_text, z06 (by simpa using hk), List.getElem_map]
theorem at_pk {C : RBx} (hi : Inv C) {t : Nat} (ht : t < C.L.tns.length) : pk (atS C) t = 48 + C.sta.getD t 0 := by
 unfold atS
 rw [z26 (fun x hx => by
  obtain ⟨y, hy, rfl⟩ := List.mem_map.1 hx
  have := hi.sta8 y hy
  omega)]
 have ht' : t < C.sta.length := by rw [hi.st]; exact ht
 unfold RBx.stateT
 rw [z06 (by simpa using ht'), z06 ht', List.getElem_map]
theorem tns_jny {L : Lay} {t : Nat} (ht : t < L.tns.length) : (L.tns.map (·.jny))[t]'(by simpa using ht) = (L.tn t).jny := by
 rw [List.getElem_map]
 unfold Lay.tn
 rw [z06 ht]
theorem an_pk (C : RBx) (s : ByteArray) {j : Nat} (hj : j < (C.L.frOf s).cmds.size / 2) : pk (anS C s) j = (C.s2 (C.L.frOf s)).doAt (C.L.frOf s) j := by
 unfold anS
 rw [z26 (fun x hx => by
  unfold RBx.doAs at hx
  obtain ⟨i, -, rfl⟩ := List.mem_map.1 hx
  exact (doA_ne _ _ _).2)]
 unfold RBx.doAs
 rw [z06 (by simpa using hj), List.getElem_map, List.getElem_range]
theorem KRun.hear {n : Nat} {w0 w : World} {D R : Nat -> Prop} {gb gp : Nat} {L : Lay} {C : RBx} (h : KRun n w0 w D R gb gp L C) {s : ByteArray} (hf : C.L.frameB s = true) : HearOK C.L s (laS C s) (moS C s) (anS C s) (grS C s) := by
 obtain ⟨B, -, hs, hi⟩ := h.box
 exact hearOK hs hi (by rw [h.eL]; exact h.sg) h.wt s hf
end Go.Proofs.YtkbpocecbcaiiabGreatDoor
