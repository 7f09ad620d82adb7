import Derived.Test.YtkbpocecbcaiiabGreatDoorN58
import Derived.Test.YtkbpocecbcaiiabGreatDoorN55
namespace Go.Proofs.YtkbpocecbcaiiabGreatDoor
open Go.RowKit
theorem grant_fl (C : RBx) (f : Fr) (t : Nat) : (C.grant f t).failed = C.failed /\ (C.grant f t).late = C.late := by
 unfold RBx.grant
 split
 ·have h := rwantN_pres ({ C with sta := C.more t } : RBx) (C.nxt t) C.L.sw.length
  exact ⟨h.2.2.2.2.2.1, h.2.2.2.2.2.2⟩
 ·exact ⟨rfl, rfl⟩
theorem grantN_fl (C : RBx) (f : Fr) : ∀ k, (C.grantN f k).failed = C.failed /\ (C.grantN f k).late = C.late
 | 0 => ⟨rfl, rfl⟩
 | k + 1 => by
  obtain ⟨a, b⟩ := grantN_fl C f k
  obtain ⟨a', b'⟩ := grant_fl (C.grantN f k) f (C.waits.getD k 0)
  exact ⟨a'.trans a, b'.trans b⟩
theorem s4_late (C : RBx) (f : Fr) : (C.s4 f).late = (C.s1 f).late /\ (C.s4 f).failed = (C.s3 f).failed /\ (C.s2 f).failed = (C.s1 f).failed := by
 obtain ⟨a, b⟩ := grantN_fl (C.s3 f) f (C.s3 f).waits.length
 have h3 : (C.s3 f).late = (C.s2 f).late := (z38 (C.s2 f) f _).2.2.1
 have h2 := z2v (C.s1 f) f (C.s1 f).lines.length
 exact ⟨(b.trans h3).trans h2.2.2.2.1, a, h2.2.2.1⟩
theorem watch1_other (C : RBx) (f : Fr) {k s : Nat} (h : s ≠ k) : (C.watch1 f k).late.getD s 0 = C.late.getD s 0 /\ (C.watch1 f k).failed.getD s false = C.failed.getD s false := by
 unfold RBx.watch1
 split
 ·simp only
  exact ⟨by rw [z0z _ _ _ _ _ h, z0z _ _ _ _ _ h], z0z _ _ _ _ _ h⟩
 ·exact ⟨z0z _ _ _ _ _ h, rfl⟩
theorem held_same {C C' : RBx} (hl : C'.lines = C.lines) (hL : C'.L = C.L) (s : Nat) : C'.heldB s = C.heldB s := by
 unfold RBx.heldB RBx.lockedBy RBx.lockB RBx.flankB RBx.line
 rw [hl, hL]
theorem watchN_before (C : RBx) (f : Fr) (s : Nat) : ∀ k, k <= s -> (C.watchN f k).late.getD s 0 = C.late.getD s 0 /\ (C.watchN f k).failed.getD s false = C.failed.getD s false
 | 0, _ => ⟨rfl, rfl⟩
 | k + 1, hk => by
  obtain ⟨a, b⟩ := watchN_before C f s k (by omega)
  obtain ⟨a', b'⟩ := watch1_other (C.watchN f k) f (k := k) (s := s) (by omega)
  exact ⟨a'.trans a, b'.trans b⟩
theorem watchN_at (C : RBx) (f : Fr) {s : Nat} (hf : s < C.failed.length) (hd : s < C.late.length) : ∀ k, s < k →
  (C.watchN f k).late.getD s 0 = (if C.lateF f s = C.L.T then 0 else C.lateF f s) /\ (C.watchN f k).failed.getD s false = (C.failed.getD s false || decide (C.lateF f s = C.L.T))
 | 0, h => absurd h (Nat.not_lt_zero _)
 | k + 1, h => by
  by_cases e : s = k
  ·subst e
   obtain ⟨a, b⟩ := watchN_before C f s s (Nat.le_refl _)
   obtain ⟨p1, p2, p3, -, -, p6, p7⟩ := watchN_pres C f s
   show ((C.watchN f s).watch1 f s).late.getD s 0 = _ /\ ((C.watchN f s).watch1 f s).failed.getD s false = _
   have el : (C.watchN f s).lateF f s = C.lateF f s := by
    unfold RBx.lateF
    rw [a, b, p3, p1, held_same p2 p1]
   unfold RBx.watch1
   rw [el, p1]
   by_cases ht : C.lateF f s = C.L.T
   ·rw [if_pos ht, if_pos ht]
    simp only
    rw [z0p _ _ _ _ _ (by rw [List.length_set, p7]; exact hd), if_pos rfl, z0p _ _ _ _ _ (by rw [p6]; exact hf), if_pos rfl]
    simp [ht]
   ·rw [if_neg ht, if_neg ht]
    simp only
    rw [z0p _ _ _ _ _ (by rw [p7]; exact hd), if_pos rfl, b]
    simp [ht]
  ·obtain ⟨a, b⟩ := watchN_at C f hf hd k (by omega)
   obtain ⟨a', b'⟩ := watch1_other (C.watchN f k) f (k := k) (s := s) e
   exact ⟨a'.trans a, b'.trans b⟩
def mendB (cs : ByteArray) (s j : Nat) : Bool := (List.range j).any (fun i => pk cs (2 * i) == 109 && pk cs (2 * i + 1) == 97 + s)
theorem mendB_succ (cs : ByteArray) (s j : Nat) : mendB cs s (j + 1) = (mendB cs s j || (pk cs (2 * j) == 109 && pk cs (2 * j + 1) == 97 + s)) := by
 unfold mendB
 rw [List.range_succ, List.any_append]
 simp
theorem cmd_109 {L : Lay} {c x : Nat} (h : L.cmdB c x = true) (h1 : c ≠ 114) (h2 : c ≠ 99) : c = 109 /\ 97 <= x /\ x < 97 + L.sw.length := by
 unfold Lay.cmdB at h
 rw [if_neg h1, if_neg h2] at h
 by_cases e : c = 109
 ·rw [if_pos e] at h
  unfold numF at h
  by_cases hh : 97 <= x /\ x < 97 + L.sw.length
  ·exact ⟨e, hh.1, hh.2⟩
  ·rw [if_neg hh] at h; cases h
 ·rw [if_neg e] at h; cases h
theorem doN_failed {C : RBx} {f : Fr} {s : Nat} (hs : s < C.failed.length) {m : Nat} (hcm : ∀ j, j < m -> C.L.cmdB (pk f.cmds (2 * j)) (pk f.cmds (2 * j + 1)) = true) : ∀ j, j <= m →
  (C.doN f j).failed.getD s false = (C.failed.getD s false && !mendB f.cmds s j) /\ (C.doN f j).failed.length = C.failed.length
 | 0, _ => by
  refine ⟨?_, rfl⟩
  show C.failed.getD s false = _
  simp [mendB]
 | j + 1, hj => by
  obtain ⟨ih, il⟩ := doN_failed hs hcm j (by omega)
  rw [mendB_succ]
  show ((C.doN f j).doC f (pk f.cmds (2 * j)) (pk f.cmds (2 * j + 1))).failed.getD s false = _ /\ ((C.doN f j).doC f (pk f.cmds (2 * j)) (pk f.cmds (2 * j + 1))).failed.length = _
  have hc := hcm j (by omega)
  generalize pk f.cmds (2 * j) = c at *
  generalize pk f.cmds (2 * j + 1) = x at *
  generalize C.doN f j = E at *
  by_cases h1 : c = 114
  ·have e : (E.doC f c x).failed = E.failed := by unfold RBx.doC RBx.ask; rw [if_pos h1]; split <;> rfl
   rw [e, ih, h1]
   exact ⟨by simp, il⟩
  by_cases h2 : c = 99
  ·have e : (E.doC f c x).failed = E.failed := by unfold RBx.doC RBx.cancel; rw [if_neg h1, if_pos h2]; split <;> rfl
   rw [e, ih, h2]
   exact ⟨by simp, il⟩
  obtain ⟨h3, h4, -⟩ := cmd_109 hc h1 h2
  unfold RBx.doC
  rw [if_neg h1, if_neg h2]
  by_cases hx : x = 97 + s
  ·have ex : x - 97 = s := by omega
   rw [ex]
   have eb : (c == 109 && x == 97 + s) = true := by simp [h3, hx]
   rw [eb, Bool.or_true, Bool.not_true, Bool.and_false]
   split
   ·simp only
    rw [z0p _ _ _ _ _ (by rw [il]; exact hs), if_pos rfl, List.length_set]
    exact ⟨rfl, il⟩
   ·rename_i hh
    exact ⟨by simpa using hh, il⟩
  ·have eb : (c == 109 && x == 97 + s) = false := by simp; omega
   rw [eb, Bool.or_false]
   split
   ·simp only
    rw [z0z _ _ _ _ _ (by omega), List.length_set]
    exact ⟨ih, il⟩
   ·exact ⟨ih, il⟩
def gripB (L : Lay) (a0 a1 : ByteArray) (s : Nat) : Bool := pk a0 s != 46 || (List.range L.rts.length).any (fun r => (secs (L.rt r).flank).contains s && pk a1 r != 46)
theorem grip_held {C : RBx} (hi : Inv C) (hP : PhOK C) {s : Nat} (hs : s < C.L.sw.length) : gripB C.L (lkS C) (phS C) s = C.heldB s := by
 unfold gripB RBx.heldB
 rw [lock_pk hi hs]
 congr 1
 ·cases C.lockedBy s with
  | none => rfl
  | some r => show (65 + r != 46) = true; simp; omega
 ·rw [hi.ll]
  apply any_cg
  intro r hr
  rw [Inv.ph256 hP.small r (by rw [hi.ll]; exact hr)]
  unfold RBx.flankB has
  rw [Bool.and_comm]
def lateW (f0 hd : Bool) (n c l0 : Nat) : Nat := if f0 = false /\ hd = true /\ n ≠ c then l0 + 1 else 0
structure LatchQ (L : Lay) (s t0 t2 b0 b1 b2 a1 a2 : ByteArray) (k l0 l2 : Nat) (f1 : Bool) : Prop where
 fl : f1 = ((pk b2 k == 120) || decide (lateW (pk b2 k == 120) (gripB L b0 b1 ((z09 0 L.sw).getD k 0)) (pk s (L.sw.length + k)) (pk b2 k) l0 = L.T))
 lt : l2 = if lateW (pk b2 k == 120) (gripB L b0 b1 ((z09 0 L.sw).getD k 0)) (pk s (L.sw.length + k)) (pk b2 k) l0 = L.T then 0 else lateW (pk b2 k == 120) (gripB L b0 b1 ((z09 0 L.sw).getD k 0)) (pk s (L.sw.length + k)) (pk b2 k) l0
 an : ∀ j, j < (s.size - L.bgn) / 2 -> pk (s.extract L.bgn s.size) (2 * j) = 109 -> pk (s.extract L.bgn s.size) (2 * j + 1) = 97 + (z09 0 L.sw).getD k 0 -> pk t2 j = if (f1 && !mendB (s.extract L.bgn s.size) ((z09 0 L.sw).getD k 0) j) = true then 109 else 110
 sw : (pk a2 k == 120) = (f1 && !mendB (s.extract L.bgn s.size) ((z09 0 L.sw).getD k 0) ((s.size - L.bgn) / 2))
 rd : f1 = true -> ∀ r, r < L.rts.length -> L.wantsF r ((z09 0 L.sw).getD k 0) ≠ 0 -> (pk b1 r = 119 \/ pk b1 r = 103) -> pk t0 r = 114 /\ (pk b1 r = 119 -> pk a1 r = 102 \/ pk a1 r = 100)
theorem late_W {C : RBx} (hi : Inv C) (hP : PhOK C) (hW : WantOK C) {s : ByteArray} {k : Nat} (hk : k < (z09 0 C.L.sw).length) :
  C.lateF (C.L.frOf s) (z09 0 C.L.sw)[k] = lateW (pk (swS C) k == 120) (gripB C.L (lkS C) (phS C) (z09 0 C.L.sw)[k]) (pk s (C.L.sw.length + k)) (pk (swS C) k) (C.late.getD (z09 0 C.L.sw)[k] 0) /\ (pk (swS C) k == 120) = C.failed.getD (z09 0 C.L.sw)[k] false := by
 obtain ⟨h1, h2, h3⟩ := rep_pts (s := s) hk
 rw [grip_held hi hP h1, sw_pk hW hk]
 have hw := hW _ h3
 unfold RBx.lateF lateW
 rw [h2, h3]
 cases hf : C.failed.getD (z09 0 C.L.sw)[k] false with
 | true => simp
 | false =>
  have e : (C.wanted.getD (z09 0 C.L.sw)[k] 0 == 120) = false := by rw [beq_eq_false_iff_ne]; omega
  simp only [Bool.false_eq_true, if_false]
  rw [e]
  refine ⟨?_, rfl⟩
  generalize C.wanted.getD (z09 0 C.L.sw)[k] 0 = x at *
  generalize pk s (C.L.sw.length + k) = y at *
  generalize C.late.getD (z09 0 C.L.sw)[k] 0 = z at *
  cases C.heldB (z09 0 C.L.sw)[k] with
  | false => simp
  | true =>
   by_cases hxy : y = x
   ·simp [hxy]
   ·simp [hxy]
theorem phase_broken {C : RBx} {f : Fr} (S : Stgs C f) {r x : Nat} (hr : r < C.L.rts.length) (hx : x < C.L.sw.length) (hw : C.L.wantsF r x ≠ 0) (hf : (C.s1 f).failed.getD x false = true) (h : (C.line r).ph = 119 \/ (C.line r).ph = 103) :
  ((C.s4 f).line r).ph ≠ 103 /\ ((C.line r).ph = 119 -> ((C.s4 f).line r).ph = 102 \/ ((C.s4 f).line r).ph = 100) := by
 have h1l : (C.s1 f).line r = C.line r := by unfold RBx.line; exact congrArg (fun l => l.getD r RLn0) (z0w C f C.L.sw.length).2.2.1
 have h1 : (C.s2 f).line r = (((C.s1 f).stepN f r).step f r).line r := by
  rw [S.n2]
  exact z4l (C.s1 f) f r C.L.rts.length hr
 have hk := z2v (C.s1 f) f r
 have hbl : ((C.s1 f).stepN f r).line r = C.line r := (z4k (C.s1 f) f r r (Nat.le_refl _)).trans h1l
 have hL : ((C.s1 f).stepN f r).L = C.L := hk.2.1.trans S.l1
 have hrl : r < ((C.s1 f).stepN f r).lines.length := by rw [(S.t r (by omega)).ll, hL]; exact hr
 have hbr : ((C.s1 f).stepN f r).broken r = true := by
  unfold RBx.broken
  rw [List.any_eq_true]
  refine ⟨x, List.mem_range.2 (by rw [hL]; exact hx), ?_⟩
  unfold RBx.brokenB
  rw [hL, hk.2.2.1, hf]
  simp [hw]
 have h2 : ((C.s2 f).line r).ph = 102 \/ ((C.line r).ph = 103 /\ ((C.s2 f).line r).ph = 116) := by
  rw [h1]
  unfold RBx.step
  rw [hbl, hbr]
  rcases h with h | h
  ·left
   rw [if_pos h, if_pos rfl, z17 _ r r _ hrl, if_pos rfl]
   rfl
  ·rw [if_neg (by omega), if_pos h]
   by_cases hin : ((C.s1 f).stepN f r).inB f r = true
   ·right
    rw [if_pos hin]
    refine ⟨h, ?_⟩
    have : (((C.s1 f).stepN f r).overtaken r).line r = { ((C.s1 f).stepN f r).line r with marks := z27 (((C.s1 f).stepN f r).L.rt r).path.length, ph := 116 } := by
     have hov : ((C.s1 f).stepN f r).overtaken r = ((C.s1 f).stepN f r).put r { ((C.s1 f).stepN f r).line r with marks := z27 (((C.s1 f).stepN f r).L.rt r).path.length, ph := 116 } := rfl
     rw [hov, z17 _ r r _ hrl, if_pos rfl]
    rw [this]
   ·left
    rw [if_neg hin, if_pos rfl, z17 _ r r _ hrl, if_pos rfl]
    rfl
 have h3 : (C.s3 f).line r = (C.s2 f).line r \/ ((C.s3 f).line r).ph = 100 := z4x (C.s2 f) f r _
 have h3n : ((C.s3 f).line r).ph ≠ 46 := by
  rcases h3 with e | e
  ·rw [e]; rcases h2 with h2 | h2 <;> omega
  ·omega
 rw [s4_keeps S h3n]
 rcases h3 with e | e
 ·rw [e]
  rcases h2 with h2 | h2
  ·exact ⟨by omega, fun _ => .inl h2⟩
  ·exact ⟨by omega, fun h => by omega⟩
 ·exact ⟨by omega, fun _ => .inr e⟩
theorem latched_facts {C : RBx} {s : ByteArray} (S : Stgs C (C.L.frOf s)) (hi : Inv C) (hP : PhOK C) (hW : WantOK C) (hP4 : PhOK (C.s4 (C.L.frOf s))) (hW4 : WantOK (C.s4 (C.L.frOf s))) (hf : C.L.frameB s = true) {k : Nat} (hk : k < (z09 0 C.L.sw).length) :
  LatchQ C.L s (laS C s) (anS C s) (lkS C) (phS C) (swS C) (phS (C.s4 (C.L.frOf s))) (swS (C.s4 (C.L.frOf s))) k (C.late.getD ((z09 0 C.L.sw).getD k 0) 0) ((C.s4 (C.L.frOf s)).late.getD ((z09 0 C.L.sw).getD k 0) 0) ((C.s1 (C.L.frOf s)).failed.getD ((z09 0 C.L.sw).getD k 0) false) := by
 have ek : (z09 0 C.L.sw).getD k 0 = (z09 0 C.L.sw)[k] := z06 hk
 obtain ⟨hx, -, hsw⟩ := rep_pts (s := s) hk
 obtain ⟨w1, w2⟩ := watchN_at C (C.L.frOf s) (s := (z09 0 C.L.sw)[k]) (by rw [hi.fl]; exact hx) (by rw [hi.dl]; exact hx) C.L.sw.length hx
 obtain ⟨l1, l2⟩ := late_W (s := s) hi hP hW hk
 obtain ⟨q1, q2, q3⟩ := s4_late C (C.L.frOf s)
 have hcs : (C.L.frOf s).cmds = s.extract C.L.bgn s.size := rfl
 have hcz : (C.L.frOf s).cmds.size = s.size - C.L.bgn := (z3d C.L s hf).2.2.1
 have hdf := fun j hj => doN_failed (C := C.s2 (C.L.frOf s)) (f := C.L.frOf s) (s := (z09 0 C.L.sw)[k]) (by rw [S.i2.fl, S.l2]; exact hx) (m := (C.L.frOf s).cmds.size / 2) (fun j hj => by rw [S.l2]; exact S.cm j hj) j hj
 rw [q3, hcs] at hdf
 rw [ek]
 refine ⟨?_, ?_, ?_, ?_, ?_⟩
 ·rw [ek, l2, <- l2, <- l1, l2]
  exact w2
 ·rw [ek, <- l1, q1]
  exact w1
 ·rw [ek]
  intro j hj e1 e2
  rw [an_pk C s (by rw [hcz]; exact hj)]
  unfold RBx.doAt RBx.doA
  rw [hcs, e1, e2, if_neg (by decide), if_neg (by decide), Nat.add_sub_cancel_left, (hdf j (by rw [<- hcs, hcz]; omega)).1]
 ·rw [ek]
  have hk4 : k < (z09 0 (C.s4 (C.L.frOf s)).L.sw).length := by rw [S.l4]; exact hk
  have e4 := (late_W (s := s) S.i4 hP4 hW4 hk4).2
  simp only [S.l4] at e4
  rw [e4, q2]
  have := (hdf ((C.L.frOf s).cmds.size / 2) (by rw [hcs]; exact Nat.le_refl _)).1
  rw [<- hcz]
  exact this
 ·rw [ek]
  intro hf1 r hr hw hp
  rw [Inv.ph256 hP.small r (by rw [hi.ll]; exact hr)] at hp ⊢
  obtain ⟨a, b⟩ := phase_broken S hr hx hw hf1 hp
  rw [lamp_pk (by rw [S.i4.ll, S.l4]; exact hr), if_neg a, Inv.ph256 hP4.small r (by rw [S.i4.ll, S.l4]; exact hr)]
  exact ⟨rfl, b⟩
theorem rts_flank {L : Lay} {r : Nat} (hr : r < L.rts.length) : (L.rts.map (fun r => secs r.flank))[r]'(by simpa using hr) = secs (L.rt r).flank := by
 rw [List.getElem_map]
 unfold Lay.rt
 rw [z06 hr]
theorem within_nat (l : List Nat) (x : Nat) : z2h l (x : Int) = l.contains x := by
 unfold z2h
 apply Bool.eq_iff_iff.2
 rw [List.any_eq_true, List.contains_iff_mem]
 constructor
 ·rintro ⟨y, hy, e⟩
  have : y = x := by have := beq_iff_eq.1 e; omega
  rw [<- this]; exact hy
 ·intro hx
  exact ⟨x, hx, by simp⟩
set_option maxRecDepth 100000 in
set_option maxHeartbeats 4000000 in
theorem kgrip_any (g : Nat) (L : Lay) (x gt : Nat) (a0 a1 a2 a3 a4 : ByteArray) (w : World) (h : KPl w g L) (ha : w.heap[gt]? = some (toldO a0 a1 a2 a3 a4)) (hA : AskOK L a0 a1 a2 a3 a4) (hx : x < L.sw.length) :
  Calls Tryz.prog 50 #[.pointer (some ⟨g, 0, none⟩), .int .i64 x, .pointer (some ⟨gt, 0, none⟩)] w fun e w' => e = .returned (.bool (gripB L a0 a1 x)) /\ w' = w := by
 have hr2 := hA.rt
 have s0 := hA.s0
 have s1 := hA.s1
 have hsw := hA.sw
 obtain ⟨vh, vp, vf, va, vk, vw, vs, vj, e, -, -, a3', -, a5, -⟩ := h
 obtain ⟨⟨-, -, -, -, -, c5, -, c7, -⟩, hg⟩ := z0n e
 obtain ⟨⟨z0, z1, -⟩, -, hgt⟩ := z0m ha
 obtain ⟨af, cf, rfl, -⟩ := SlAt.open a3'
 rw [List.length_map] at c5
 have HI := zh (fun (r : Nat) (hr : r < L.rts.length) => z3h a5 r (by simpa using hr))
 have hx0 : x < a0.size := by omega
 obtain ⟨Z, hZ⟩ : ∃ Z, Z = gripB L a0 a1 x := ⟨_, rfl⟩
 rw [<- hZ]
 unfold gripB at hZ
 obtain ⟨b, hb⟩ : ∃ b, (a0[x]'hx0).toNat = b := ⟨_, rfl⟩
 rw [<- z0j a0 x hx0, hb] at hZ
 obtain ⟨nr, hnr⟩ : ∃ n, n = L.rts.length := ⟨_, rfl⟩
 have HNR := zh hnr
 rw [<- hnr] at c5 s1 hr2 hZ
 have HZ := zh hZ
 have px : (x : Int) < a0.size := by omega
 have p0 : (0 : Int) <= x := by omega
 clear e a3' a5 hnr hZ hA ha s0
 by_cases h46 : b = 46
 ·subst h46
  go_enter Tryz.func50, Tryz.ntmps50
  go_wp2
  go_loop [7] (fun i => ∃ k : Nat, k <= nr /\ i = .int .i64 k /\ ∀ r, r < k -> ((secs (L.rt r).flank).contains x && pk a1 r != 46) = false) (fun i => nr - (intOf i).toNat)
  case atStart => exact ⟨0, Nat.zero_le _, rfl, fun j h => by omega⟩
  case round =>
   obtain ⟨k, hk, rfl, hko⟩ := hrel
   have HKO := zh hko
   clear hko
   by_cases hlt : k < nr
   ·have hk' : k < L.rts.length := by rw [<- uh HNR]; exact hlt
    obtain ⟨gk, ok, ck, ar, cr, ev, hgk, xr, hui⟩ := uh HI k hk'
    subst ev
    rw [rts_flank hk'] at xr hui
    rw [List.length_map, <- uh HNR] at c7
    have HW := zh (within_any _ _ (x : Int) w hui)
    rw [within_nat] at HW
    have HN := zh (show ((secs (L.rt k).flank).contains x && pk a1 k != 46) = false -> ∀ r, r < k + 1 -> ((secs (L.rt r).flank).contains x && pk a1 r != 46) = false from fun hn r hr => by
     by_cases e : r = k
     ·subst e; exact hn
     ·exact uh HKO r (by omega))
    have HY := zh (show ((secs (L.rt k).flank).contains x && pk a1 k != 46) = true -> true = Z from fun hy => by
     rw [uh HZ]; symm
     rw [Bool.or_eq_true]
     right
     rw [List.any_eq_true]
     exact ⟨k, List.mem_range.2 hlt, hy⟩)
    have hk1 : k < a1.size := by omega
    obtain ⟨z, hz⟩ : ∃ z, (a1[k]'hk1).toNat = z := ⟨_, rfl⟩
    rw [<- z0j a1 k hk1, hz] at HN HY
    generalize (secs (L.rt k).flank).contains x = bw at *
    generalize (secs (L.rt k).flank).length = fl at *
    have l1 : (k : Int) < nr := by omega
    have l2 : (k : Int) < a1.size := by omega
    have l3 : (0 : Int) <= k := by omega
    clear hui hk'
    go_wp2_with fail
    refine (uh HW).mono ?_
    rintro e w2 ⟨rfl, rfl⟩
    cases bw with
    | false =>
     have HN2 := zh (uh HN rfl)
     clear HN HY
     go_wp2
     exact ⟨⟨k + 1, by omega, by go_num, uh HN2⟩, by simp [intOf]; omega⟩
    | true =>
     by_cases hz46 : z = 46
     ·have HN2 := zh (uh HN (by simp [hz46]))
      subst hz46
      clear HN HY
      go_wp2
      exact ⟨⟨k + 1, by omega, by go_num, uh HN2⟩, by simp [intOf]; omega⟩
     ·have HY2 := zh (uh HY (by simp [hz46]))
      have hb1 : ((z : Int) != 46) = true := by simp; omega
      clear HN HY
      go_wp2
      go_ret
      exact ⟨z04 (uh HY2), rfl⟩
   ·have l1 : ¬ (k : Int) < nr := by omega
    have HZ2 := zh (show false = Z by
     rw [uh HZ]; symm
     rw [Bool.or_eq_false_iff]
     refine ⟨by simp, ?_⟩
     rw [List.any_eq_false]
     intro r hr e
     have := uh HKO r (by have := List.mem_range.1 hr; omega)
     rw [this] at e
     cases e)
    go_wp2
    go_ret
    exact ⟨z04 (uh HZ2), rfl⟩
 ·have hb1 : ((b : Int) != 46) = true := by simp; omega
  have HZ2 := zh (show true = Z by
   rw [uh HZ]; symm
   rw [Bool.or_eq_true]
   left
   simp [h46])
  go_enter Tryz.func50, Tryz.ntmps50
  go_wp2
  go_ret
  exact ⟨z04 (uh HZ2), rfl⟩
set_option maxRecDepth 100000 in
set_option maxHeartbeats 8000000 in
theorem kmended_yes (g : Nat) (L : Lay) (s : ByteArray) (gh x m : Nat) (f1 : Bool) (t0 t1 t2 t3 : ByteArray) (w : World) (h : KPl w g L) (hh : w.heap[gh]? = some (z4s t0 t1 t2 t3))
  (hbg : L.bgn <= s.size) (hs : s.size <= 64) (hm : s.size - L.bgn = 2 * m) (hs2 : t2.size = m) (_hx : x <= 100)
  (hf : ∀ j, j < m -> pk (s.extract L.bgn s.size) (2 * j) = 109 -> pk (s.extract L.bgn s.size) (2 * j + 1) = 97 + x -> pk t2 j = if (f1 && !mendB (s.extract L.bgn s.size) x j) = true then 109 else 110) :
  Calls Tryz.prog 52 #[.pointer (some ⟨g, 0, none⟩), .int .i64 x, .bool f1, .string s, .pointer (some ⟨gh, 0, none⟩)] w fun e w' => e = .returned (.tuple #[.bool (mendB (s.extract L.bgn s.size) x m), .bool true]) /\ ∃ n, w' = w.drewN n := by
 have HCM := zh (z30 g L s w h hbg (by omega))
 have hcz : (s.extract L.bgn s.size).size = 2 * m := by rw [z1w]; exact hm
 have HHH := zh (fun (n : Nat) => show (w.drewN n).heap[gh]? = _ from hh)
 have HF := zh hf
 generalize s.extract L.bgn s.size = cs at *
 have hm32 : m <= 32 := by omega
 clear h hh hf hbg hm
 go_enter Tryz.func52, Tryz.ntmps52
 go_wp2_with fail
 refine (uh HCM).mono ?_
 rintro e w1 ⟨rfl, m1, hw1⟩
 obtain ⟨⟨-, -, y2, -⟩, hgh⟩ := z1i (uh HHH m1)
 rw [<- hw1] at y2 hgh
 have HW1 := zh hw1
 clear hw1 HCM
 go_wp2
 go_loop [13, 14] (fun d i => ∃ j : Nat, j <= m /\ d = .bool (mendB cs x j) /\ i = .int .i64 (2 * j : Nat)) (fun _ i => 2 * m - (intOf i).toNat)
 case atStart => exact ⟨0, Nat.zero_le _, rfl, rfl⟩
 case round =>
  obtain ⟨j, hj, rfl, rfl⟩ := hrel
  by_cases hlt : j < m
  ·have HJ := zh (uh HF j hlt)
   have hms := mendB_succ cs x j
   obtain ⟨i, hi⟩ : ∃ i, i = 2 * j := ⟨_, rfl⟩
   have hi1 : i + 1 < cs.size := by omega
   have hi0 : i < cs.size := by omega
   have hj2 : j < t2.size := by omega
   rw [<- hi] at HJ hms ⊢
   obtain ⟨c, hc⟩ : ∃ c, (cs[i]'hi0).toNat = c := ⟨_, rfl⟩
   obtain ⟨y, hy⟩ : ∃ c, (cs[i + 1]'hi1).toNat = c := ⟨_, rfl⟩
   obtain ⟨z, hz⟩ : ∃ c, (t2[j]'hj2).toNat = c := ⟨_, rfl⟩
   rw [<- z0j cs i hi0, hc, <- z0j cs (i + 1) hi1, hy] at HJ hms
   rw [<- z0j t2 j hj2, hz] at HJ
   have hy256 : y < 256 := by rw [<- hy]; exact (cs[i + 1]'hi1).toNat_lt
   have ey : IntKind.i64.wrap (y : Int) = y := Go.IntWalk.i64_in _ (by omega)
   have ew : IntKind.i64.wrap ((y : Int) - 97) = (y : Int) - 97 := Go.IntWalk.i64_in _ (by omega)
   obtain ⟨b0, hb0⟩ : ∃ b, b = mendB cs x j := ⟨_, rfl⟩
   rw [<- hb0] at HJ hms ⊢
   have HMS := zh hms
   have l1 : (i : Int) + 1 < cs.size := by omega
   have l2 : (i : Int) < cs.size := by omega
   have l3 : (0 : Int) <= i := by omega
   have l4 : (0 : Int) <= (i : Int) + 1 := by omega
   have l5 : (j : Int) < t2.size := by omega
   have l6 : (0 : Int) <= j := by omega
   have hii : i <= 200 := by omega
   have v1 : Int.tdiv (i : Int) 2 = j := by rw [show Int.tdiv (i : Int) 2 = ((i / 2 : Nat) : Int) from (Int.ofNat_tdiv i 2).symm]; omega
   have HNX := zh (show Value.int .i64 ((i : Int) + 2) = .int .i64 ((2 * (j + 1) : Nat) : Int) by congr 1; omega)
   have hme : 2 * m - ((i : Int) + 2).toNat < 2 * m - i := by omega
   clear hb0 hms hi
   by_cases h1 : c = 109
   ·subst h1
    by_cases h2 : y = 97 + x
    ·have b1 : ((y : Int) - 97 != (x : Int)) = false := by simp; omega
     have HM2 := zh (show mendB cs x (j + 1) = true by rw [uh HMS]; simp [h2])
     have hzz := uh HJ rfl h2
     clear HMS HJ h2
     cases f1 with
     | true =>
      cases b0 with
      | true =>
       rw [if_neg (by decide)] at hzz
       subst hzz
       go_wp2
       exact ⟨⟨j + 1, by omega, by rw [uh HM2], uh HNX⟩, by simpa [intOf] using hme⟩
      | false =>
       rw [if_pos (by decide)] at hzz
       subst hzz
       go_wp2
       exact ⟨⟨j + 1, by omega, by rw [uh HM2], uh HNX⟩, by simpa [intOf] using hme⟩
     | false =>
      rw [if_neg (by simp)] at hzz
      subst hzz
      go_wp2
      exact ⟨⟨j + 1, by omega, by rw [uh HM2], uh HNX⟩, by simpa [intOf] using hme⟩
    ·have b1 : ((y : Int) - 97 != (x : Int)) = true := by simp; omega
     have HM2 := zh (show mendB cs x (j + 1) = b0 by rw [uh HMS]; simp [h2])
     clear HMS HJ h2
     go_wp2
     exact ⟨⟨j + 1, by omega, by rw [uh HM2], uh HNX⟩, by simpa [intOf] using hme⟩
   ·have b1 : ((c : Int) != 109) = true := by simp; omega
    have HM2 := zh (show mendB cs x (j + 1) = b0 by rw [uh HMS]; simp [h1])
    clear HMS HJ h1
    go_wp2
    exact ⟨⟨j + 1, by omega, by rw [uh HM2], uh HNX⟩, by simpa [intOf] using hme⟩
  ·have l1 : ¬ ((2 * j : Nat) : Int) + 1 < cs.size := by omega
   have l1' : decide (((2 * j : Nat) : Int) + 1 < cs.size) = false := by simp; omega
   have l7 : j <= 200 := by omega
   obtain rfl : j = m := by omega
   go_wp2
   go_ret2
   exact ⟨rfl, _, uh HW1⟩
set_option maxRecDepth 100000 in
set_option maxHeartbeats 8000000 in
theorem kred_yes (g : Nat) (L : Lay) (x gh gw gt : Nat) (t0 t1 t2 t3 b0 b1 b2 b3 b4 a0 a1 a2 a3 a4 : ByteArray) (w : World) (h : KPl w g L) (hh : w.heap[gh]? = some (z4s t0 t1 t2 t3)) (hb : w.heap[gw]? = some (toldO b0 b1 b2 b3 b4)) (ha : w.heap[gt]? = some (toldO a0 a1 a2 a3 a4))
  (hx : x < L.sw.length) (ho : ∀ r, r < L.rts.length -> RtOK L (L.rt r)) (hr2 : L.rts.length <= 100) (q0 : t0.size = L.rts.length) (q1 : b1.size = L.rts.length) (q2 : a1.size = L.rts.length)
  (hf : ∀ r, r < L.rts.length -> L.wantsF r x ≠ 0 -> (pk b1 r = 119 \/ pk b1 r = 103) -> pk t0 r = 114 /\ (pk b1 r = 119 -> pk a1 r = 102 \/ pk a1 r = 100)) :
  Calls Tryz.prog 53 #[.pointer (some ⟨g, 0, none⟩), .int .i64 x, .pointer (some ⟨gh, 0, none⟩), .pointer (some ⟨gw, 0, none⟩), .pointer (some ⟨gt, 0, none⟩)] w fun e w' => e = .returned (.bool true) /\ w' = w := by
 obtain ⟨vh, vp, vf, va, vk, vw, vs, vj, e, -, -, a3', -, -, a6, -⟩ := h
 obtain ⟨⟨-, -, -, -, -, c5, -, -, c8, -⟩, hg⟩ := z0n e
 obtain ⟨af, cf, rfl, -⟩ := SlAt.open a3'
 rw [List.length_map] at c5
 obtain ⟨⟨y0, -⟩, hgh⟩ := z1i hh
 obtain ⟨⟨-, x1, -⟩, -, hgw⟩ := z0m hb
 obtain ⟨⟨-, z1, -⟩, -, hgt⟩ := z0m ha
 have HI := zh (fun (r : Nat) (hr : r < L.rts.length) => want_at a6 hr (ho r hr))
 have HF := zh hf
 obtain ⟨nr, hnr⟩ : ∃ n, n = L.rts.length := ⟨_, rfl⟩
 have HNR := zh hnr
 rw [<- hnr] at c5 hr2 q0 q1 q2
 obtain ⟨ns, hns⟩ : ∃ n, n = L.sw.length := ⟨_, rfl⟩
 rw [<- hns] at hx HI
 have px : (x : Int) < ns := by omega
 have p0 : (0 : Int) <= x := by omega
 clear e a3' a6 ho hnr hns hf hh hb ha
 go_enter Tryz.func53, Tryz.ntmps53
 go_wp2
 go_loop [11] (fun i => ∃ k : Nat, k <= nr /\ i = .int .i64 k) (fun i => nr - (intOf i).toNat)
 case atStart => exact ⟨0, Nat.zero_le _, rfl⟩
 case round =>
  obtain ⟨k, hk, rfl⟩ := hrel
  by_cases hlt : k < nr
  ·have hk' : k < L.rts.length := by rw [<- uh HNR]; exact hlt
   obtain ⟨gv, ov, cv, gr, or_, cr, rfl, hgv, hrow⟩ := uh HI k hk'
   obtain ⟨xr, hgr, hc⟩ := hrow (by omega)
   have xc := hc x hx
   rw [<- uh HNR] at c8
   have hff := uh HF k hk'
   generalize L.wantsF k x = u at *
   have k0 : k < t0.size := by omega
   have k1 : k < b1.size := by omega
   have k2 : k < a1.size := by omega
   obtain ⟨z, hz⟩ : ∃ z, (t0[k]'k0).toNat = z := ⟨_, rfl⟩
   obtain ⟨p, hp⟩ : ∃ z, (b1[k]'k1).toNat = z := ⟨_, rfl⟩
   obtain ⟨q, hq⟩ : ∃ z, (a1[k]'k2).toNat = z := ⟨_, rfl⟩
   rw [<- z0j t0 k k0, <- z0j b1 k k1, <- z0j a1 k k2, hz, hp, hq] at hff
   have l1 : (k : Int) < nr := by omega
   have l2 : (k : Int) < t0.size := by omega
   have l3 : (k : Int) < b1.size := by omega
   have l4 : (k : Int) < a1.size := by omega
   have l5 : (0 : Int) <= k := by omega
   clear hrow hc hk'
   by_cases h0 : u = 0
   ·subst h0
    clear hff
    go_wp2
    exact ⟨⟨k + 1, by omega, by go_num⟩, by simp [intOf]; omega⟩
   ·have f0 : ((u : Int) == 0) = false := by simp; omega
    by_cases h1 : p = 119
    ·obtain ⟨f1, f2⟩ := hff h0 (.inl h1)
     have f3 := f2 h1
     subst h1 f1
     clear hff f2
     rcases f3 with f3 | f3
     ·subst f3
      go_wp2
      exact ⟨⟨k + 1, by omega, by go_num⟩, by simp [intOf]; omega⟩
     ·subst f3
      go_wp2
      exact ⟨⟨k + 1, by omega, by go_num⟩, by simp [intOf]; omega⟩
    ·have g1 : ((p : Int) != 119) = true := by simp; omega
     have g2 : ((p : Int) == 119) = false := by simp; omega
     by_cases h2 : p = 103
     ·obtain ⟨f1, -⟩ := hff h0 (.inr h2)
      subst h2 f1
      clear hff
      go_wp2
      exact ⟨⟨k + 1, by omega, by go_num⟩, by simp [intOf]; omega⟩
     ·have g3 : ((p : Int) != 103) = true := by simp; omega
      clear hff
      go_wp2
      exact ⟨⟨k + 1, by omega, by go_num⟩, by simp [intOf]; omega⟩
  ·have l1 : ¬ (k : Int) < nr := by omega
   go_wp2
   go_ret
   exact ⟨rfl, rfl⟩
set_option maxRecDepth 100000 in
set_option maxHeartbeats 16000000 in
theorem klatched_yes (g : Nat) (L : Lay) (s : ByteArray) (k l0 l2 : Nat) (f1 : Bool) (gh gw gt : Nat) (t0 t1 t2 t3 b0 b1 b2 b3 b4 a0 a1 a2 a3 a4 : ByteArray) (w : World) (h : KPl w g L) (hh : w.heap[gh]? = some (z4s t0 t1 t2 t3)) (hb : w.heap[gw]? = some (toldO b0 b1 b2 b3 b4)) (ha : w.heap[gt]? = some (toldO a0 a1 a2 a3 a4))
  (hA : AskOK L a0 a1 a2 a3 a4) (hB : AskOK L b0 b1 b2 b3 b4) (hH : HearOK L s t0 t1 t2 t3) (hg : GoodF L s) (ho : ∀ r, r < L.rts.length -> RtOK L (L.rt r)) (hk : k < (z09 0 L.sw).length) (hl0 : l0 <= 1000) (hT : 1 <= L.T /\ L.T <= 1000) (q : LatchQ L s t0 t2 b0 b1 b2 a1 a2 k l0 l2 f1) :
  Calls Tryz.prog 24 #[.pointer (some ⟨g, 0, none⟩), .int .i64 k, .int .i64 l0, .string s, .pointer (some ⟨gh, 0, none⟩), .pointer (some ⟨gw, 0, none⟩), .pointer (some ⟨gt, 0, none⟩)] w fun e w' => e = .returned (.tuple #[.int .i64 (l2 : Nat), .bool true]) /\ ∃ m, w' = w.drewN m := by
 obtain ⟨x, hxe⟩ : ∃ x, x = (z09 0 L.sw).getD k 0 := ⟨_, rfl⟩
 have hxg : (z09 0 L.sw)[k] = x := by rw [hxe, z06 hk]
 have hxs : x < L.sw.length := by rw [<- hxg]; exact (rep_pts (s := s) hk).1
 have hcp := cnt_pts L.sw 0
 have hsw := hA.sw
 have hct : cntT L.sw <= L.sw.length := by unfold cntT; exact List.length_filter_le _ _
 have hbgn : L.bgn = L.sw.length + cntT L.sw := rfl
 have hge := hg.ge
 have hle := hg.le
 have hev := hg.even
 obtain ⟨q1, q2, q3, q4, q5⟩ := q
 rw [<- hxe] at q1 q2 q3 q4 q5
 obtain ⟨m, hm⟩ : ∃ m, m = (s.size - L.bgn) / 2 := ⟨_, rfl⟩
 rw [<- hm] at q3 q4
 have HGR := zh (kgrip_any g L x gw b0 b1 b2 b3 b4 w h hb hB hxs)
 have HRP := zh (kreport_any g L s k w h (by omega) (by omega))
 have HME := zh (kmended_yes g L s gh x m f1 t0 t1 t2 t3 w h hh hge hle (by omega) (by rw [hH.s2, hm]) (by omega) q3)
 have HRD := zh (fun (hf : f1 = true) (n : Nat) => kred_yes g L x gh gw gt t0 t1 t2 t3 b0 b1 b2 b3 b4 a0 a1 a2 a3 a4 (w.drewN n) (h.below (below_drewN (Below.refl _ _) n)) hh hb ha hxs ho hA.rt hH.s0 hB.s1 hA.s1 (q5 hf))
 obtain ⟨vh, vp, vf, va, vk, vw, vs, vj, e, -, x2, -⟩ := h
 obtain ⟨⟨c0, -, -, -, c4, -⟩, hgg⟩ := z0n e
 obtain ⟨ap, cp, hvp, hmp, hrow⟩ := z3i x2
 obtain ⟨gq, oq, rfl, hgq, xq⟩ := hrow k hk
 rw [hxg] at xq
 subst hvp
 obtain ⟨np, hnp⟩ : ∃ n, n = (z09 0 L.sw).length := ⟨_, rfl⟩
 rw [<- hnp] at c4 hk hcp
 obtain ⟨⟨-, -, y2, -⟩, -, hgw⟩ := z0m hb
 obtain ⟨⟨-, -, z2, -⟩, -, hgt⟩ := z0m ha
 have kb : k < b2.size := by rw [hB.s2]; omega
 have ka : k < a2.size := by rw [hA.s2]; omega
 obtain ⟨c, hc⟩ : ∃ c, (b2[k]'kb).toNat = c := ⟨_, rfl⟩
 obtain ⟨z, hz⟩ : ∃ c, (a2[k]'ka).toNat = c := ⟨_, rfl⟩
 rw [<- z0j b2 k kb, hc] at q1 q2
 rw [<- z0j a2 k ka, hz] at q4
 generalize pk s (L.sw.length + k) = n at *
 generalize mendB (s.extract L.bgn s.size) x m = md at *
 generalize gripB L b0 b1 x = hd at *
 obtain ⟨T, hTe⟩ : ∃ T, T = L.T := ⟨_, rfl⟩
 rw [<- hTe] at c0 hT q1 q2
 have l1 : (k : Int) < np := by omega
 have l2' : (k : Int) < b2.size := by omega
 have l3 : (k : Int) < a2.size := by omega
 have l4 : (0 : Int) <= k := by omega
 have l5 : k <= 100 := by omega
 clear hxe hxg hxs hct hbgn hge hle hev q3 q5 e x2 hrow hnp hTe hm hh hb ha hA hB hH hg ho hcp
 go_enter Tryz.func24, Tryz.ntmps24
 go_wp2_with fail
 refine (uh HGR).mono ?_
 rintro e w1 ⟨rfl, rfl⟩
 go_wp2_with fail
 refine (uh HRP).mono ?_
 rintro e w2 ⟨rfl, rfl⟩
 by_cases h1 : c = 120
 ·subst h1
  have hlw : lateW (120 == 120) hd n 120 l0 = 0 := by unfold lateW; rw [if_neg (by simp)]
  rw [hlw] at q1 q2
  have d1 : ¬ (0 : Nat) = T := by omega
  have d2 : ((0 : Int) == (T : Int)) = false := by simp; omega
  rw [if_neg d1] at q2
  have hf1 : f1 = true := by rw [q1]; simp
  subst hf1 q2
  clear q1 hlw
  go_wp2_with fail
  refine (uh HME).mono ?_
  rintro e w3 ⟨rfl, m3, hw3⟩
  have o2 : w3.cell? ⟨gt, 2, none⟩ = some (.string a2) := by rw [hw3]; exact z2
  have og : gt < w3.heap.size := by rw [hw3]; exact hgt
  have HR3 := zh (uh HRD (by first | trivial | rfl) m3)
  rw [<- hw3] at HR3
  have HW3 := zh hw3
  clear hw3
  cases md with
  | true =>
   have e5 : ((z : Int) == 120) = false := by simp at q4 ⊢; omega
   clear q4
   go_wp2_with fail
   refine (uh HR3).mono ?_
   rintro e w4 ⟨rfl, rfl⟩
   go_wp2
   go_ret2
   exact ⟨rfl, _, uh HW3⟩
  | false =>
   have e5 : z = 120 := by simpa using q4
   subst e5
   clear q4
   go_wp2_with fail
   refine (uh HR3).mono ?_
   rintro e w4 ⟨rfl, rfl⟩
   go_wp2
   go_ret2
   exact ⟨rfl, _, uh HW3⟩
 have e1 : ((c : Int) == 120) = false := by simp; omega
 have e1' : (c == 120) = false := by simp; omega
 rw [e1'] at q1 q2
 cases hd with
 | false =>
  have hlw : lateW false false n c l0 = 0 := by unfold lateW; rw [if_neg (by simp)]
  rw [hlw] at q1 q2
  have d1 : ¬ (0 : Nat) = T := by omega
  have d2 : ((0 : Int) == (T : Int)) = false := by simp; omega
  rw [if_neg d1] at q2
  have hf1 : f1 = false := by rw [q1]; simp; omega
  subst hf1 q2
  clear q1 hlw
  go_wp2_with fail
  refine (uh HME).mono ?_
  rintro e w3 ⟨rfl, m3, hw3⟩
  have o2 : w3.cell? ⟨gt, 2, none⟩ = some (.string a2) := by rw [hw3]; exact z2
  have og : gt < w3.heap.size := by rw [hw3]; exact hgt
  have HW3 := zh hw3
  clear hw3
  have e5 : ((z : Int) == 120) = false := by simp at q4 ⊢; omega
  clear q4
  cases md with
  | true =>
   go_wp2
   go_ret2
   exact ⟨rfl, _, uh HW3⟩
  | false =>
   go_wp2
   go_ret2
   exact ⟨rfl, _, uh HW3⟩
 | true =>
  by_cases h2 : n = c
  ·subst h2
   have hlw : lateW false true n n l0 = 0 := by unfold lateW; rw [if_neg (by simp)]
   rw [hlw] at q1 q2
   have d1 : ¬ (0 : Nat) = T := by omega
   have d2 : ((0 : Int) == (T : Int)) = false := by simp; omega
   rw [if_neg d1] at q2
   have hf1 : f1 = false := by rw [q1]; simp; omega
   subst hf1 q2
   clear q1 hlw
   go_wp2_with fail
   refine (uh HME).mono ?_
   rintro e w3 ⟨rfl, m3, hw3⟩
   have o2 : w3.cell? ⟨gt, 2, none⟩ = some (.string a2) := by rw [hw3]; exact z2
   have og : gt < w3.heap.size := by rw [hw3]; exact hgt
   have HW3 := zh hw3
   clear hw3
   have e5 : ((z : Int) == 120) = false := by simp at q4 ⊢; omega
   clear q4
   cases md with
   | true =>
    go_wp2
    go_ret2
    exact ⟨rfl, _, uh HW3⟩
   | false =>
    go_wp2
    go_ret2
    exact ⟨rfl, _, uh HW3⟩
  ·have e3 : ((n : Int) != (c : Int)) = true := by simp; omega
   have hlw : lateW false true n c l0 = l0 + 1 := by unfold lateW; rw [if_pos ⟨rfl, rfl, h2⟩]
   rw [hlw] at q1 q2
   obtain ⟨l1', hl1⟩ : ∃ l, l = l0 + 1 := ⟨_, rfl⟩
   rw [<- hl1] at q1 q2
   have el : (l0 : Int) + 1 = l1' := by omega
   have bl : l1' <= 1001 := by omega
   by_cases h3 : l1' = T
   ·subst h3
    rw [if_pos rfl] at q2
    have hf1 : f1 = true := by rw [q1]; simp
    subst hf1 q2
    clear hl1
    clear q1 hlw
    go_wp2_with fail
    refine (uh HME).mono ?_
    rintro e w3 ⟨rfl, m3, hw3⟩
    have o2 : w3.cell? ⟨gt, 2, none⟩ = some (.string a2) := by rw [hw3]; exact z2
    have og : gt < w3.heap.size := by rw [hw3]; exact hgt
    have HR3 := zh (uh HRD (by first | trivial | rfl) m3)
    rw [<- hw3] at HR3
    have HW3 := zh hw3
    clear hw3
    cases md with
    | true =>
     have e5 : ((z : Int) == 120) = false := by simp at q4 ⊢; omega
     clear q4
     go_wp2_with fail
     refine (uh HR3).mono ?_
     rintro e w4 ⟨rfl, rfl⟩
     go_wp2
     go_ret2
     exact ⟨rfl, _, uh HW3⟩
    | false =>
     have e5 : z = 120 := by simpa using q4
     subst e5
     clear q4
     go_wp2_with fail
     refine (uh HR3).mono ?_
     rintro e w4 ⟨rfl, rfl⟩
     go_wp2
     go_ret2
     exact ⟨rfl, _, uh HW3⟩
   ·have d2 : ((l1' : Int) == (T : Int)) = false := by simp; omega
    rw [if_neg h3] at q2
    have hf1 : f1 = false := by rw [q1]; simp [h3]
    subst hf1 q2
    clear hl1
    clear q1 hlw
    go_wp2_with fail
    refine (uh HME).mono ?_
    rintro e w3 ⟨rfl, m3, hw3⟩
    have o2 : w3.cell? ⟨gt, 2, none⟩ = some (.string a2) := by rw [hw3]; exact z2
    have og : gt < w3.heap.size := by rw [hw3]; exact hgt
    have HW3 := zh hw3
    clear hw3
    have e5 : ((z : Int) == 120) = false := by simp at q4 ⊢; omega
    clear q4
    cases md with
    | true =>
     go_wp2
     go_ret2
     exact ⟨rfl, _, uh HW3⟩
    | false =>
     go_wp2
     go_ret2
     exact ⟨rfl, _, uh HW3⟩
def lateL (C : RBx) : List Nat := (z09 0 C.L.sw).map (fun s => C.late.getD s 0)
theorem lateL_len (C : RBx) : (lateL C).length = (z09 0 C.L.sw).length := List.length_map ..
theorem lateL_get (C : RBx) {k : Nat} (hk : k < (z09 0 C.L.sw).length) : (lateL C).getD k 0 = C.late.getD ((z09 0 C.L.sw).getD k 0) 0 := by
 unfold lateL
 rw [z06 (by simpa using hk), List.getElem_map, z06 hk]
theorem lateL_init (L : Lay) : lateL (RBx.init L) = List.replicate (z09 0 L.sw).length 0 := by
 unfold lateL
 apply List.ext_getElem
 ·simp [RBx.init]
 ·intro i h1 h2
  rw [List.getElem_map, List.getElem_replicate]
  exact z1l _ _ _ _ rfl
theorem latched_run {n : Nat} {w0 w : World} {D R : Nat -> Prop} {gb gp : Nat} {L : Lay} {C : RBx} (h : KRun n w0 w D R gb gp L C) (hJ : KJ C) {s : ByteArray} (hf : C.L.frameB s = true) {k : Nat} (hk : k < (z09 0 L.sw).length) (gh gw gt : Nat) (wz : World) (hkp : KPl wz gp L)
  (hh : wz.heap[gh]? = some (z4s (laS C s) (moS C s) (anS C s) (grS C s))) (hb : wz.heap[gw]? = some (toldO (lkS C) (phS C) (swS C) (atS C) (quS C))) (ha : wz.heap[gt]? = some (toldO (lkS (C.cyc s)) (phS (C.cyc s)) (swS (C.cyc s)) (atS (C.cyc s)) (quS (C.cyc s)))) :
  Calls Tryz.prog 24 #[.pointer (some ⟨gp, 0, none⟩), .int .i64 k, .int .i64 ((lateL C).getD k 0 : Nat), .string s, .pointer (some ⟨gh, 0, none⟩), .pointer (some ⟨gw, 0, none⟩), .pointer (some ⟨gt, 0, none⟩)] wz fun e w' => e = .returned (.tuple #[.int .i64 ((lateL (C.cyc s)).getD k 0 : Nat), .bool true]) /\ ∃ m, w' = wz.drewN m := by
 obtain ⟨S, e4⟩ := h.stg hf
 have hJ4 := h.kj hJ s
 have hH := h.hear hf
 have hi := h.box.inv
 have hB := h.box.inv.askOK
 have eL := h.eL
 have hW := h.wt
 have hW4 := (cyc_ok (C := C) (by rw [h.eL]; exact h.sg) h.wt s).1
 subst eL
 rw [e4] at hJ4 ha hW4 ⊢
 have hA := S.i4.askOK
 rw [S.l4] at hA
 have hg := (z2t C.L s).1 hf
 have hlt := hi.late ((z09 0 C.L.sw).getD k 0)
 have hT := hi.lay.T
 rw [lateL_get C hk, lateL_get (C.s4 (C.L.frOf s)) (by rw [S.l4]; exact hk)]
 have q := latched_facts S hi hJ.ph hW hJ4.ph hW4 hf hk
 have el : ((C.s4 (C.L.frOf s)).late.getD ((z09 0 (C.s4 (C.L.frOf s)).L.sw).getD k 0) 0) = ((C.s4 (C.L.frOf s)).late.getD ((z09 0 C.L.sw).getD k 0) 0) := by rw [S.l4]
 rw [el]
 exact klatched_yes gp C.L s k _ _ _ gh gw gt _ _ _ _ _ _ _ _ _ _ _ _ _ _ wz hkp hh hb ha hA hB hH hg (fun r hr => hi.rt hr) hk (by omega) (by omega) q
def KLa (n : Nat) (w wr : World) (R : Nat -> Prop) (gb gp gw gl np : Nat) (L : Lay) : Prop := ∃ C D, KRun n w wr D R gb gp L C /\ KJ C /\ wr.heap[gw]? = some (toldO (lkS C) (phS C) (swS C) (atS C) (quS C)) /\ ¬ D gw /\ Row wr gl np (lateL C) /\ ¬ D gl /\ gl < gw
set_option maxRecDepth 100000 in
set_option maxHeartbeats 16000000 in
theorem Latched_any (s : ByteArray) (ao : Option Addr) (len cap : Nat) (zs : List ByteArray) (w : World) (hF : FrsOK w ao len zs) :
  Calls Tryz.prog 7 #[.string s, .slice ao len cap] w fun e w' => e = .returned (.bool true) /\ Below w.heap.size w w' := by
 have H1 := zh (z2o s w)
 obtain ⟨⟨hlm, hF⟩, hsz⟩ := hF
 unfold maxLen at hlm
 have HFR := zh hF
 have HSZ := zh hsz
 clear hF hsz
 go_enter Tryz.func7, Tryz.ntmps7
 go_wp2_with fail
 refine (uh H1).mono ?_
 rintro e w1 hOp
 rcases hOp with ⟨-, rfl, hb1⟩ | ⟨h0, gb, gp, D, R, rfl, hK⟩
 ·have HB1 := zh hb1
  clear hb1
  go_wp2
  go_ret
  exact ⟨rfl, uh HB1⟩
 ·have HK0 := zh hK
  obtain ⟨vh, vp, vf, va, vk, vw, vs, vj, ek, -, x2, -⟩ := hK.plan.at
  obtain ⟨⟨-, -, -, -, c4, -⟩, hgg⟩ := z0n ek
  obtain ⟨ap, cp, rfl, -⟩ := SlAt.open x2
  obtain ⟨np, hnp⟩ : ∃ n, n = (z09 0 (layOf s.data.toList).sw).length := ⟨_, rfl⟩
  rw [<- hnp] at c4
  have hpb : np <= 100 := by
   have h1 := hK.box.inv.lay.sw
   rw [hK.eL] at h1
   have h2 := cnt_pts (layOf s.data.toList).sw 0
   have h3 : cntT (layOf s.data.toList).sw <= (layOf s.data.toList).sw.length := by unfold cntT; exact List.length_filter_le _ _
   omega
  obtain ⟨i0, hi0⟩ := info_parts Tryz.infoInt
  have hmk := fun (wz : World) => run_make (P := Tryz.prog) wz 49 3 i0 (.int .i64 0) Tryz.underlying49 hi0.1 hi0.2.1 .i64 .i64 (np : Int) (np : Int) (by omega) (by omega) (by rw [hi0.2.2.2]; omega) (by omega)
  rw [hi0.2.2.1] at hmk
  simp only [Int.toNat_natCast, Nat.mul_one] at hmk
  have HB0 := zh (z02 w1 (.cells (madeCells #[.int .i64 0] np) 3))
  have HR0 := zh (show Row (w1.alloc (.cells (madeCells #[.int .i64 0] np) 3)) w1.heap.size np (lateL (RBx.init (layOf s.data.toList))) from by rw [lateL_init, <- hnp]; exact own_made w1 0 np (Nat.zero_le _) (by unfold maxLen; omega))
  have HA0 := zh ((uh HK0).below (uh HB0) (Nat.le_refl _)).ask
  obtain ⟨gl, hgl⟩ : ∃ g, g = w1.heap.size := ⟨_, rfl⟩
  have HNP := zh hnp
  have HRL := zh (show ¬ R gl from fun hr => by have := hK.plan.1 gl hr; omega)
  have HDL := zh (show ¬ D gl from fun hr => by have := hK.box.lt gl hr; omega)
  have HNL := zh (show w.heap.size <= gl by have := hK.be.size; omega)
  clear hK H1 h0 ek x2 hnp hi0
  go_wp2_with fail
  refine (uh HA0).mono ?_
  rintro e w0 ⟨g0, rfl, hg0, ht0, hb0⟩
  have HM0 := zh (show KLa w.heap.size w w0 R gb gp g0 gl np (layOf s.data.toList) from ⟨_, D, ((uh HK0).below (uh HB0) (Nat.le_refl _)).below hb0 (Nat.le_refl _), KJ.init _, ht0, fun hd => by have := (uh HK0).box.lt g0 hd; simp at hg0; omega, by rw [hgl]; exact (uh HR0).below hb0, uh HDL, by simp at hg0; omega⟩)
  rw [<- hgl]
  generalize layOf s.data.toList = L at *
  clear HA0 HK0 ht0 hb0 hg0 hgl HB0 HR0 HDL c4 hgg hmk
  go_wp2
  go_loopw [9, 11] (fun v i wr => ∃ m gw : Nat, v = .pointer (some ⟨gw, 0, none⟩) /\ i = .int .i64 m /\ m <= len /\ KLa w.heap.size w wr R gb gp gw gl np L) (fun _ i _ => len - (intOf i).toNat)
  case atStart => exact ⟨0, g0, rfl, rfl, Nat.zero_le _, uh HM0⟩
  case round =>
   obtain ⟨m, gw, rfl, rfl, hm, hM⟩ := hrel
   by_cases hlt : m < len
   ·obtain ⟨C, D, hK, hJ, hto0, hnd, hrow, hdl, hglw⟩ := hM
    rcases uh HFR with h | ⟨g, off, rfl, hc⟩
    ·omega
    have hcm0 := hc m hlt
    have hbk : g < w.heap.size := by
     rcases Nat.lt_or_ge g w.heap.size with h | h
     ·exact h
     ·unfold World.cell? at hcm0
      simp [Array.getElem?_eq_none h] at hcm0
    have hszm := uh HSZ m
    generalize zs.getD m ByteArray.empty = fr at *
    have hcm : ∀ wz, Below w.heap.size w wz -> wz.cell? ⟨g, off + m, none⟩ = some (.string fr) := fun wz hz => (hz.cell (p := ⟨g, off + m, none⟩) hbk).trans hcm0
    have hgz : ∀ wz, Below w.heap.size w wz -> g < wz.heap.size := fun wz hz => by have := hz.size; omega
    have HCM := zh hcm
    have HGZ := zh hgz
    have c1 := hcm wr hK.be
    have g1 := hgz wr hK.be
    have l0 : (0 : Int) <= m := by omega
    have l1 : (m : Int) < len := by omega
    have HC := zh (hK.cyc (Nat.le_refl _) fr)
    have HK := zh hK
    have HJ := zh hJ
    have HJ2 := zh (hK.kj hJ fr)
    have HTO0 := zh hto0
    have HND := zh hnd
    have HRW := zh hrow
    have HDL := zh hdl
    clear hc hcm0 hcm hgz hK hJ hto0 hnd hrow hdl HM0
    go_wp2_with fail
    refine (uh HC).mono ?_
    rintro e w2 ⟨rfl, hK2, ho2⟩
    have HK2 := zh hK2
    have HTO2 := zh ((ho2.block gw (z0c (uh HTO0)) (uh HND)).trans (uh HTO0))
    have HRW2 := zh ((uh HRW).only ho2 (uh HDL))
    have HDL2 := zh (show ¬ grow D wr w2 gl from fun hd => by
     rcases hd with hd | hd
     ·exact uh HDL hd
     ·have := (uh HRW).lt; omega)
    have c2 := uh HCM w2 hK2.be
    have g2 := uh HGZ w2 hK2.be
    have HH := zh (z5e (w := w2) (uh HK) hK2.plan.at fr hszm)
    clear hK2 ho2 c1 g1 HC
    go_wp2_with fail
    refine (uh HH).mono ?_
    rintro e w3 hH
    rcases hH with ⟨hf, gh, rfl, hgh, hho, hb3⟩ | ⟨hf, rfl, hb3⟩
    ·have HK3 := zh ((uh HK2).below hb3 (Nat.le_refl _))
     have HA := zh ((uh HK3).ask)
     have HHO := zh hho
     have HF := zh hf
     have HTO3 := zh ((hb3.block gw (z0c (uh HTO2))).trans (uh HTO2))
     have HRW3 := zh ((uh HRW2).below hb3)
     have hz3 := hb3.size
     clear hho hb3 c2 g2 HH hf
     go_wp2_with fail
     refine (uh HA).mono ?_
     rintro e w4 ⟨gt, rfl, hgt, hto, hb4⟩
     have HK4 := zh ((uh HK3).below hb4 (Nat.le_refl _))
     have HHO4 := zh ((hb4.block gh (z0c (uh HHO))).trans (uh HHO))
     have HTO4 := zh ((hb4.block gw (z0c (uh HTO3))).trans (uh HTO3))
     have HRW4 := zh ((uh HRW3).below hb4)
     have HTO := zh hto
     have hgl3 := (uh HRW3).lt
     have hgl2 := (uh HRW2).lt
     have HFN := zh (show ¬ _ from fun hd => by have := (uh HK2).box.lt gt hd; omega)
     have HGT := zh (show gl < gt /\ gl ≠ gh by omega)
     have eLc := (uh HK).eL
     have eL4 := (uh HK4).eL
     have HLN := zh (show (lateL (C.cyc fr)).length = (lateL C).length /\ (lateL C).length = np by rw [lateL_len, lateL_len, eLc, eL4, uh HNP]; exact ⟨rfl, rfl⟩)
     have HRUN := zh (fun (k : Nat) (hk : k < np) (wz : World) (hz : Only (fun b => b = gl) w4 wz) => latched_run (uh HK) (uh HJ) (uh HF) (k := k) (by rw [<- uh HNP]; exact hk) gh gw gt wz ((uh HK4).onlyG hz (uh HDL2) (uh HRL) (uh HNL) (Nat.le_refl _)).plan.at ((hz.block gh (z0c (uh HHO4)) (fun e => (uh HGT).2 e.symm)).trans (uh HHO4)) ((hz.block gw (z0c (uh HTO4)) (fun e => by have e' : gw = gl := e; omega)).trans (uh HTO4)) ((hz.block gt (z0c (uh HTO)) (fun e => by have e' : gt = gl := e; have := (uh HGT).1; omega)).trans (uh HTO)))
     have HLB := zh (show ∀ k, (lateL (C.cyc fr)).getD k 0 <= 1000 /\ (lateL C).getD k 0 <= 1000 by
      intro k
      have hT := (uh HK).box.inv.lay.T
      have hT4 := (uh HK4).box.inv.lay.T
      refine ⟨?_, ?_⟩
      ·rcases Nat.lt_or_ge k (z09 0 (C.cyc fr).L.sw).length with hk | hk
       ·rw [lateL_get _ hk]; have := (uh HK4).box.inv.late ((z09 0 (C.cyc fr).L.sw).getD k 0); omega
       ·rw [List.getD_eq_getElem?_getD, List.getElem?_eq_none (by rw [lateL_len]; exact hk)]; simp
      ·rcases Nat.lt_or_ge k (z09 0 C.L.sw).length with hk | hk
       ·rw [lateL_get _ hk]; have := (uh HK).box.inv.late ((z09 0 C.L.sw).getD k 0); omega
       ·rw [List.getD_eq_getElem?_getD, List.getElem?_eq_none (by rw [lateL_len]; exact hk)]; simp)
     have HKM := zh (show ∀ wz, Only (fun b => b = gl) w4 wz -> Row wz gl np (lateL (C.cyc fr)) -> KLa w.heap.size w wz R gb gp gt gl np L from fun wz hz hr => ⟨_, _, (uh HK4).onlyG hz (uh HDL2) (uh HRL) (uh HNL) (Nat.le_refl _), uh HJ2, (hz.block gt (z0c (uh HTO)) (fun e => by have e' : gt = gl := e; have := (uh HGT).1; omega)).trans (uh HTO), uh HFN, hr, uh HDL2, (uh HGT).1⟩)
     have HKB := zh (fun (wz : World) (hz : Only (fun b => b = gl) w4 wz) => (uh HK4).onlyG hz (uh HDL2) (uh HRL) (uh HNL) (Nat.le_refl _))
     obtain ⟨vh, vp, vf, va, vk, vw, vs, vj, ek, -, x2, -⟩ := (uh HK4).plan.at
     have HKO := zh ek
     obtain ⟨af, cf, rfl, -⟩ := SlAt.open x2
     rw [<- uh HNP] at HKO
     have HPG := zh (show gp ≠ gl from fun e => by
      have h1 := (uh HKO)
      have h2 := (uh HRW4)
      rcases h2.2 with ⟨h3, -⟩ | ⟨g', cap', cur, h3, -, h4, -⟩
      ·cases h3
      ·simp only [Value.slice.injEq, Option.some.injEq, Addr.mk.injEq] at h3
       obtain ⟨⟨rfl, -⟩, -⟩ := h3
       rw [e] at h1
       rw [h1] at h4
       unfold kobj at h4
       simp at h4)
     generalize lateL (C.cyc fr) = ln at *
     generalize lateL C = lo at *
     clear hto hb4 ek x2 HA hz3 hgl3 hgl2
     go_wp2
     go_loopw [17] (fun i wq => ∃ r : Nat, i = .int .i64 r /\ r <= np /\ Only (fun b => b = gl) w4 wq /\ Row wq gl np (mixN ln lo r)) (fun i _ => np - (intOf i).toNat)
     case atStart => exact ⟨0, rfl, Nat.zero_le _, Only.refl _ _, uh HRW4⟩
     case round =>
      obtain ⟨r, rfl, hr, hoq, hrw⟩ := hrel
      have HOQ := zh hoq
      have HRQ := zh hrw
      obtain ⟨hln, hlo⟩ := uh HLN
      have hbe := (uh HKB wr hoq).be
      have c3 := uh HCM wr hbe
      have g3 := uh HGZ wr hbe
      obtain ⟨⟨-, -, -, -, c4, -⟩, hgg⟩ := z0n ((hoq.block gp (z0c (uh HKO)) (fun e => uh HPG e)).trans (uh HKO))
      by_cases hrt : r < np
      ·have hml := mixN_len hln (k := r) (by omega)
       have xr := hrw.cell hrt (by omega)
       rw [mixN_get hln (by omega)] at xr
       have hgr := hrw.lt
       have hb := uh HLB r
       have HLC := zh (fun (n : Nat) => uh HRUN r hrt (wr.drewN n) (z47 hoq n))
       have HNX := zh (mixN_set hln (k := r) (by omega))
       generalize ln.getD r 0 = v1 at *
       generalize lo.getD r 0 = v0 at *
       have l2 : (r : Int) < np := by omega
       have l3 : (0 : Int) <= r := by omega
       clear hoq hrw hbe hml
       go_wp2
       go_quiet ((go_at_call 24; exact Calls.quiet_of (uh HLC _)))
       have zr := ((uh HRQ).below (below_drewN (Below.refl _ _) nq)).frozen r
       go_wp2
       exact ⟨⟨r + 1, by go_num, by omega, (z47 (uh HOQ) nq).trans (only_gl _ _ _ _), by rw [<- uh HNX]; exact ((uh HRQ).below (below_drewN (Below.refl _ _) nq)).set r v1⟩, by simp [intOf]; omega⟩
      ·have l2 : ¬ (r : Int) < np := by omega
       have hrl : r = lo.length := by omega
       rw [hrl, mixN_end hln] at hrw
       have HK5 := zh (uh HKM wr hoq hrw)
       clear hoq hrw hbe
       go_wp2
       exact ⟨⟨m + 1, gt, rfl, by go_num, by omega, uh HK5⟩, by simp [intOf]; omega⟩
    ·have HK3 := zh ((uh HK2).below hb3 (Nat.le_refl _))
     have HA := zh ((uh HK3).ask)
     have hz3 := hb3.size
     have e2 : C.cyc fr = C := by unfold RBx.cyc; rw [if_neg (by simp [hf])]
     have HRW3 := zh ((uh HRW2).below hb3)
     rw [<- e2] at HRW3
     clear hb3 c2 g2 HH hf e2
     go_wp2_with fail
     refine (uh HA).mono ?_
     rintro e w4 ⟨gt, rfl, hgt, hto, hb4⟩
     have hgl3 := (uh HRW3).lt
     have HKM := zh (show KLa w.heap.size w w4 R gb gp gt gl np L from ⟨_, _, (uh HK3).below hb4 (Nat.le_refl _), uh HJ2, hto, fun hd => by have := (uh HK2).box.lt gt hd; omega, (uh HRW3).below hb4, uh HDL2, by omega⟩)
     clear hto hb4 HA hz3 hgl3
     go_wp2
     go_loopw [17] (fun i wq => i = .int .i64 0 /\ wq = w4) (fun _ _ => 0)
     case atStart => exact ⟨rfl, rfl⟩
     case round =>
      obtain ⟨rfl, rfl⟩ := hrel
      go_wp2
      exact ⟨⟨m + 1, gt, rfl, by go_num, by omega, uh HKM⟩, by simp [intOf]; omega⟩
   ·have l1 : ¬ (m : Int) < len := by omega
    have HB := zh (show Below w.heap.size w wr by obtain ⟨C, D, hK, -⟩ := hM; exact hK.be)
    clear hM HM0
    go_wp2
    go_ret
    exact ⟨rfl, uh HB⟩
end Go.Proofs.YtkbpocecbcaiiabGreatDoor
