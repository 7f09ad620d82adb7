import Derived.Test.YtkbpocecbcaiiabGreatDoorN52
namespace Go.Proofs.YtkbpocecbcaiiabGreatDoor
open Go.RowKit
theorem lay_form (s : ByteArray) (h : (errOf s.data.toList).1 = 0) : s.size <= 256 /\ (layL s).1 = true /\ (layL s).2.1 = s.size /\ ∀ i, i < 3 -> 49 <= pk s i /\ pk s i <= 57 := by
 have hlen : s.data.toList.length = s.size := by simp
 have hs : s.size <= 256 := by
  unfold errOf at h
  by_cases hh : 256 < s.data.toList.length
  ·rw [if_pos hh] at h; simp at h
  ·omega
 rcases form_eq s hs with ⟨f1, f2, f3, f4⟩ | ⟨f1, f2, f3⟩
 case inr =>
  exfalso
  unfold errOf at h
  rw [if_neg (by omega), if_pos f2] at h
  simp at h
 have hl1 : (layL s).1 = true /\ (layL s).2.1 = s.size := by
  unfold z2f at f1
  rw [if_neg (by omega)] at f1
  by_cases hh : ((layL s).1 && decide ((layL s).2.1 = s.size)) = false
  ·rw [if_pos hh] at f1; simp at f1
  ·simp at hh; exact hh
 refine ⟨hs, hl1.1, hl1.2, ?_⟩
 have ht := (times_ok s).2
 have h2 := hl1.1
 unfold layL at h2
 by_cases h1 : z2w s 0 ≠ 3
 ·rw [if_pos h1] at h2; cases h2
 ·exact (ht (by omega)).2.2
theorem kread_lay (s : ByteArray) (w : World) (h : (errOf s.data.toList).1 = 0) :
  Calls Tryz.prog 31 #[.string s] w fun e w' => e = .returned (.pointer (some ⟨w.heap.size, 0, none⟩)) /\ KPlIn (fun k => w.heap.size <= k /\ k < w'.heap.size) w' w.heap.size (layOf s.data.toList) /\ Below w.heap.size w w' := by
 obtain ⟨h1, h2, h3, h4⟩ := lay_form s h
 obtain ⟨hL, he⟩ := layOK_of s h
 have hx : ∀ r, r ∈ (layL s).2.2.rts -> ∀ x, x ∈ r.path \/ x ∈ r.flank -> x.1 < (layL s).2.2.sw.length := by
  rw [he]
  intro r hr x hx
  rcases hx with hx | hx
  ·exact ((hL.rts r hr).ps x hx).1
  ·exact ((hL.rts r hr).fs x hx).1
 obtain ⟨k1, k2, k3, k4, k5, k6⟩ := kread_all s h2 h3 hx
 refine (kread_any s w h1 k1 (fun i hi => by have := h4 i hi; omega) k3).mono ?_
 rintro e w' ⟨e1, ⟨V, e2⟩, e3⟩
 refine ⟨e1, ?_, e3⟩
 rw [k2, <- k4, <- k5, <- k6, he] at e2
 exact e2.restIn
structure KRun (n : Nat) (w0 w : World) (D R : Nat -> Prop) (gb gp : Nat) (L : Lay) (C : RBx) : Prop where
 box : BoxC w D gb C
 plan : KPlIn R w gp L
 ap : ∀ k, R k -> ¬ D k
 dn : ∀ k, D k -> n <= k
 eL : C.L = L
 sg : L.Signs
 wt : WantOK C
 be : Below n w0 w
theorem KRun.nw {n : Nat} {w0 w : World} {D R : Nat -> Prop} {gb gp : Nat} {L : Lay} {C : RBx} (h : KRun n w0 w D R gb gp L C) (hn : n <= w0.heap.size) : n <= w.heap.size := Nat.le_trans hn h.be.size
theorem KRun.below {n : Nat} {w0 w w' : World} {D R : Nat -> Prop} {gb gp : Nat} {L : Lay} {C : RBx} (h : KRun n w0 w D R gb gp L C) (hb : Below w.heap.size w w') (hn : n <= w0.heap.size) : KRun n w0 w' D R gb gp L C :=
 ⟨h.box.below hb, h.plan.below hb, h.ap, h.dn, h.eL, h.sg, h.wt, h.be.trans (hb.mono (h.nw hn))⟩
theorem KRun.cyc {n : Nat} {w0 w : World} {D R : Nat -> Prop} {gb gp : Nat} {L : Lay} {C : RBx} (h : KRun n w0 w D R gb gp L C) (hn : n <= w0.heap.size) (s : ByteArray) :
  Calls Tryz.prog 11 #[.pointer (some ⟨gb, 0, none⟩), .string s] w fun e w' => e = .returned (.string (C.ans s)) /\ KRun n w0 w' (grow D w w') R gb gp L (C.cyc s) /\ Only D w w' := by
 refine (kcycle_any D gb C s w h.box).mono ?_
 rintro e w' ⟨e1, e2, e3⟩
 have hc := cyc_ok (C := C) (by rw [h.eL]; exact h.sg) h.wt s
 refine ⟨e1, ⟨e2, h.plan.only e3 h.ap, ?_, ?_, hc.2.trans h.eL, h.sg, hc.1, h.be.trans (e3.belowK h.dn (h.nw hn))⟩, e3⟩
 ·intro k hk hg
  rcases hg with hg | hg
  ·exact h.ap k hk hg
  ·have := h.plan.1 k hk; omega
 ·intro k hk
  rcases hk with hk | hk
  ·exact h.dn k hk
  ·have := h.nw hn; omega
theorem KRun.ask {n : Nat} {w0 w : World} {D R : Nat -> Prop} {gb gp : Nat} {L : Lay} {C : RBx} (h : KRun n w0 w D R gb gp L C) :
  Calls Tryz.prog 13 #[.pointer (some ⟨gp, 0, none⟩), .pointer (some ⟨gb, 0, none⟩)] w fun e w' => AskP w w' e (lkS C) (phS C) (swS C) (atS C) (quS C) := by
 obtain ⟨B, hP, hs, hi⟩ := h.box
 have hp := hs.psm hi
 have sm := hs.same hi
 have hO := hi.askOK
 rw [h.eL] at hO
 refine kask_of gp gb L _ _ _ _ _ w h.plan.at ?_ ?_ ?_ ?_ ?_ hO
 ·intro wz hz
  have := pLocks_any gb B wz (hP.at.below hz) hp.sw hp.rts hp.fr
  rw [sm.locks] at this
  exact this
 ·intro wz hz
  have := pPhases_any gb B wz (hP.at.below hz) (by have := hp.rts; omega)
  rw [sm.phases] at this
  exact this
 ·intro wz hz
  have := pSwitches_any gb B wz (hP.at.below hz) hp.wa
  rw [sm.switches] at this
  exact this
 ·intro wz hz
  have := pAt_any gb B wz (hP.at.below hz) hp.st hp.st9
  rw [sm.state] at this
  exact this
 ·intro wz hz
  have := pQueue_any gb B wz (hP.at.below hz) hp.wl hp.w9
  rw [sm.queue] at this
  exact this
def HearQ (w w' : World) (e : Ending) (C : RBx) (s : ByteArray) : Prop :=
 (C.L.frameB s = true /\ HearP w w' e (laS C s) (moS C s) (anS C s) (grS C s)) \/ (C.L.frameB s = false /\ e = .returned (.tuple #[.pointer none, .bool true]) /\ Below w.heap.size w w')
theorem z5e {n : Nat} {w0 w wq : World} {D R : Nat -> Prop} {gb gp : Nat} {L : Lay} {C : RBx} (h : KRun n w0 wq D R gb gp L C) (hk : KPl w gp L) (s : ByteArray) (hsm : s.size <= maxLen) :
  Calls Tryz.prog 12 #[.pointer (some ⟨gp, 0, none⟩), .string s, .string (C.ans s)] w fun e w' => HearQ w w' e C s := by
 obtain ⟨B, hP, hs, hi⟩ := h.box
 have hsw := hi.lay.sw
 rw [h.eL] at hsw
 cases hf : C.L.frameB s with
 | true =>
  rw [ans_hear C s hf]
  have hO := hearOK hs hi (by rw [h.eL]; exact h.sg) h.wt s hf
  rw [h.eL] at hO
  refine (khear_yes gp L s _ _ _ _ w hk (by rw [<- h.eL]; exact hf) hO).mono ?_
  intro e w' hh
  exact .inl ⟨hf, hh⟩
 | false =>
  rw [ans_none C s hf]
  refine (khear_no gp L s w hk (by omega) hsm (by rw [<- h.eL]; exact hf)).mono ?_
  rintro e w' ⟨e1, e2⟩
  exact .inr ⟨hf, e1, e2⟩
def OpenP (w w' : World) (e : Ending) (s : ByteArray) : Prop :=
 ((errOf s.data.toList).1 ≠ 0 /\ e = .returned (.tuple #[.pointer none, .pointer none, .bool true]) /\ Below w.heap.size w w') ∨
 ((errOf s.data.toList).1 = 0 /\ ∃ gb gp D R, e = .returned (.tuple #[.pointer (some ⟨gb, 0, none⟩), .pointer (some ⟨gp, 0, none⟩), .bool true]) /\ KRun w.heap.size w w' D R gb gp (layOf s.data.toList) (RBx.init (layOf s.data.toList)))
set_option maxHeartbeats 2000000 in
theorem z2o (s : ByteArray) (w : World) :
  Calls Tryz.prog 9 #[.string s] w fun e w' => OpenP w w' e s := by
 have H1 := zh (pnew_any s w)
 have H2 := zh (fun (wz : World) => rCheck_any s wz form_ok)
 have H3 := zh (fun (wz : World) => kawake_any wz)
 have H4 := zh (fun (wz : World) (h : (errOf s.data.toList).1 = 0) => kread_lay s wz h)
 have HI := zh (fun h => init_inv (layOK_of s h).1)
 have HS := zh (fun (h : (errOf s.data.toList).1 = 0) => show (layOf s.data.toList).Signs by rw [<- (layOK_of s h).2]; exact layL_signs s)
 obtain ⟨P, hP⟩ : ∃ P : World -> Ending -> Prop, P = fun w' e => OpenP w w' e s := ⟨_, rfl⟩
 have HP := zh (show ∀ w' e, OpenP w w' e s -> P w' e from fun w' e h => by rw [hP]; exact h)
 have hgoal : (fun e w' => OpenP w w' e s) = fun e w' => P w' e := by rw [hP]
 rw [hgoal]
 clear hP hgoal
 unfold OpenP at HP
 generalize layOf s.data.toList = L at *
 generalize (errOf s.data.toList).2 = E2 at *
 generalize (errOf s.data.toList).1 = E at *
 go_enter Tryz.func9, Tryz.ntmps9
 go_wp2_with fail
 refine (uh H1).mono ?_
 rintro e w1 ⟨hcase, hb1⟩
 have HB1 := zh hb1
 clear hb1
 rcases hcase with ⟨hx, rfl⟩ | ⟨h0, gb, rfl, hg, hPB⟩
 ·have hxb : ((E : Int) == 0) = false := by simp; exact hx
  have hxn : ((E : Int) != 0) = true := by simp; exact hx
  have HX := zh hx
  go_wp2_with fail
  refine (uh H2 w1).mono ?_
  rintro e w2 ⟨rfl, hb2⟩
  have HB2 := zh ((uh HB1).trans (hb2.mono (uh HB1).size))
  clear hb2
  go_wp2_with fail
  refine (uh H3 w2).mono ?_
  rintro e w3 ⟨rfl, hb3⟩
  have HB3 := zh ((uh HB2).trans (hb3.mono (uh HB2).size))
  clear hb3
  go_wp2
  refine bodyPost_ret (v := .tuple #[.pointer none, .pointer none, .bool true]) (by simp [results, Tryz.results9, go_sem]) rfl ?_
  exact uh HP _ _ (.inl ⟨uh HX, rfl, uh HB3⟩)
 ·have HPB := zh (show BoxC w1 (fun b => w.heap.size <= b /\ b < w1.heap.size) gb (RBx.init L) from ⟨_, hPB, init_sim, uh HI h0⟩)
  have HSG := zh (uh HS h0)
  have H40 := zh (fun wz => uh H4 wz h0)
  have H0 := zh h0
  subst h0
  clear hPB
  go_wp2_with fail
  refine (uh H2 w1).mono ?_
  rintro e w2 ⟨rfl, hb2⟩
  have HB2 := zh ((uh HB1).trans (hb2.mono (uh HB1).size))
  have HQ2 := zh ((uh HPB).below hb2)
  have hz2 := hb2.size
  clear hb2
  go_wp2_with fail
  refine (uh H3 w2).mono ?_
  rintro e w3 ⟨rfl, hb3⟩
  have HB3 := zh ((uh HB2).trans (hb3.mono (uh HB2).size))
  have HQ3 := zh ((uh HQ2).below hb3)
  have hz3 := hb3.size
  clear hb3
  go_wp2_with fail
  refine (uh H40 w3).mono ?_
  rintro e w4 ⟨rfl, hpl, hb4⟩
  have HB4 := zh ((uh HB3).trans (hb4.mono (uh HB3).size))
  have HQ4 := zh ((uh HQ3).below hb4)
  have HPL := zh hpl
  clear hb4 hpl
  go_wp2
  refine bodyPost_ret (v := .tuple #[.pointer (some ⟨gb, 0, none⟩), .pointer (some ⟨w3.heap.size, 0, none⟩), .bool true]) (by simp [results, Tryz.results9, go_sem]) rfl ?_
  refine uh HP _ _ (.inr ⟨trivial, gb, w3.heap.size, _, _, rfl, ⟨uh HQ4, uh HPL, ?_, fun k hk => hk.1, rfl, uh HSG, WantOK.init L, uh HB4⟩⟩)
  intro k hk hd
  have h1 := hk.1
  have h2 := hd.2
  omega
theorem signsW_len (l : List (Nat × Nat)) : ∀ W, (z29 W l).length = W.length := by
 induction l with
 | nil => intro W; rfl
 | cons x l ih =>
  intro W
  show (z29 (if x.2 = 0 then W else W.set x.1 x.2) l).length = _
  rw [ih]
  split
  ·rfl
  ·rw [List.length_set]
theorem signsW_get (l : List (Nat × Nat)) : ∀ W, (secs l).Nodup -> (∀ x, x ∈ l -> x.1 < W.length) -> ∀ s, (z29 W l).getD s 0 = match z1u l s with
  | some v => if v = 0 then W.getD s 0 else v
  | none => W.getD s 0 := by
 induction l with
 | nil => intro W _ _ s; rfl
 | cons x l ih =>
  intro W hn hl s
  have hn' : x.1 ∉ secs l /\ (secs l).Nodup := by
   have : (x.1 :: secs l).Nodup := hn
   exact List.nodup_cons.1 this
  show (z29 (if x.2 = 0 then W else W.set x.1 x.2) l).getD s 0 = _
  have hl' : ∀ y, y ∈ l -> y.1 < (if x.2 = 0 then W else W.set x.1 x.2).length := by
   intro y hy
   have := hl y (List.mem_cons_of_mem _ hy)
   split
   ·exact this
   ·rw [List.length_set]; exact this
  rw [ih _ hn'.2 hl' s]
  have hx := hl x (List.mem_cons_self ..)
  by_cases e : x.1 = s
  ·have h1 : z1u l s = none := by
    unfold z1u
    have : l.find? (fun y => y.1 == s) = none := by
     rw [List.find?_eq_none]
     intro y hy
     have hne : y.1 ≠ x.1 := fun e2 => hn'.1 (by rw [<- e2]; exact List.mem_map_of_mem hy)
     simp; omega
    rw [this]; rfl
   have h2 : z1u (x :: l) s = some x.2 := by
    unfold z1u
    rw [List.find?_cons_of_pos (by simp [e])]; rfl
   rw [h1, h2]
   simp only
   by_cases h0 : x.2 = 0
   ·rw [if_pos h0, if_pos h0]
   ·rw [if_neg h0, if_neg h0, <- e, z0p _ _ _ _ _ hx, if_pos rfl]
  ·have h2 : z1u (x :: l) s = z1u l s := by
    unfold z1u
    rw [List.find?_cons_of_neg (by simp [e])]
   rw [h2]
   have h3 : (if x.2 = 0 then W else W.set x.1 x.2).getD s 0 = W.getD s 0 := by
    split
    ·rfl
    ·exact z0z _ _ _ _ _ (fun e2 => e e2.symm)
   rw [h3]
theorem z4j (n : Nat) (r : Rt) : (z2y n r).length = n := by
 unfold z2y
 rw [signsW_len, signsW_len, List.length_replicate]
theorem signOf_has {l : List (Nat × Nat)} {s v : Nat} (h : z1u l s = some v) : has l s = true := by
 obtain ⟨x, h1, h2, -⟩ := find_mem h
 unfold has
 rw [List.contains_iff_mem]
 rw [<- h2]
 exact List.mem_map_of_mem h1
theorem wantRow_get {L : Lay} {r : Nat} (h : RtOK L (L.rt r)) (s : Nat) : (z2y L.sw.length (L.rt r)).getD s 0 = L.wantsF r s := by
 have hw1 : ∀ x, x ∈ (L.rt r).path -> x.1 < (List.replicate L.sw.length 0).length := fun x hx => by rw [List.length_replicate]; exact (h.ps x hx).1
 have hw2 : ∀ x, x ∈ (L.rt r).flank -> x.1 < (z29 (List.replicate L.sw.length 0) (L.rt r).path).length := fun x hx => by rw [signsW_len, List.length_replicate]; exact (h.fs x hx).1
 unfold z2y
 rw [signsW_get _ _ h.fn hw2, signsW_get _ _ h.pn hw1]
 have h0 : (List.replicate L.sw.length 0).getD s 0 = 0 := z1l _ _ _ _ rfl
 rw [h0]
 unfold Lay.wantsF
 cases hp : z1u (L.rt r).path s with
 | some v =>
  cases hq : z1u (L.rt r).flank s with
  | some u =>
   obtain ⟨x, h1, h2, -⟩ := find_mem hq
   have := (h.fs x h1).2.2.1
   rw [h2, signOf_has hp] at this
   cases this
  | none =>
   simp only
   split <;> omega
 | none =>
  cases hq : z1u (L.rt r).flank s with
  | some u =>
   show (if u = 0 then 0 else u) = u
   split <;> omega
  | none => rfl
theorem busy_L {C C' : RBx} (h : C'.L = C.L) (f : Fr) (r : Nat) : C'.busy f r = C.busy f r := by
 unfold RBx.busy RBx.pth; rw [h]
theorem z4v {C : RBx} (k r : Nat) (x : RLn) (h : r ≠ k) : (C.put k x).line r = C.line r := z0z _ _ _ _ _ h
theorem z3e (C : RBx) (f : Fr) (k r : Nat) (h : r ≠ k) : (C.step f k).line r = C.line r := by
 have hp := fun x => z4v (C := C) k r x h
 unfold RBx.step RBx.passed RBx.overtaken
 repeat' split
 all_goals first
  | exact hp _
  | rfl
  | exact z0z _ _ _ _ _ h
theorem z4k (C : RBx) (f : Fr) (r : Nat) : ∀ k, k <= r -> (C.stepN f k).line r = C.line r
 | 0, _ => rfl
 | k + 1, h => (z3e (C.stepN f k) f k r (by omega)).trans (z4k C f r k (by omega))
theorem z4l (C : RBx) (f : Fr) (r : Nat) : ∀ k, r < k -> (C.stepN f k).line r = ((C.stepN f r).step f r).line r
 | 0, h => by omega
 | k + 1, h => by
  by_cases e : r = k
  ·subst e; rfl
  ·exact (z3e (C.stepN f k) f k r e).trans (z4l C f r k (by omega))
theorem z4w {C : RBx} {r : Nat} (h : (C.line r).ph ≠ 46) : r < C.lines.length := by
 rcases Nat.lt_or_ge r C.lines.length with h' | h'
 ·exact h'
 ·exfalso; apply h
  unfold RBx.line
  rw [List.getD_eq_getElem?_getD, List.getElem?_eq_none h']; rfl
theorem doC_line (C : RBx) (f : Fr) (c x r : Nat) : (C.doC f c x).line r = C.line r \/ ((C.doC f c x).line r).ph = 100 := by
 unfold RBx.doC RBx.ask RBx.cancel
 by_cases h1 : c = 114
 ·rw [if_pos h1]
  split <;> exact .inl rfl
 rw [if_neg h1]
 by_cases h2 : c = 99
 ·rw [if_pos h2]
  split
  ·by_cases e : r = x - 65
   ·by_cases hl : r < C.lines.length
    ·right
     rw [<- e, z17 C r r _ hl, if_pos rfl]
    ·left
     unfold RBx.put RBx.line
     simp only
     rw [List.set_eq_of_length_le (by omega)]
   ·left; exact z4v _ _ _ e
  ·exact .inl rfl
 rw [if_neg h2]
 split <;> exact .inl rfl
theorem z4x (C : RBx) (f : Fr) (r : Nat) : ∀ k, (C.doN f k).line r = C.line r \/ ((C.doN f k).line r).ph = 100
 | 0 => .inl rfl
 | k + 1 => by
  rcases doC_line (C.doN f k) f (pk f.cmds (2 * k)) (pk f.cmds (2 * k + 1)) r with h | h
  ·rcases z4x C f r k with h' | h'
   ·exact .inl (h.trans h')
   ·right
    show (((C.doN f k).doC f _ _).line r).ph = 100
    rw [h]; exact h'
  ·exact .inr h
theorem wantN_lines (C : RBx) (r : Nat) : ∀ k, (C.wantN r k).lines = C.lines
 | 0 => rfl
 | k + 1 => by
  show ((C.wantN r k).wantK r k).lines = _
  unfold RBx.wantK
  split
  ·exact wantN_lines C r k
  ·exact wantN_lines C r k
theorem z4m (C : RBx) (r t : Nat) : (C.given r t).lines = C.lines.set r (RLnW t) := by
 show (({ C with sta := C.more t } : RBx).wantN r C.L.sw.length).lines.set r (RLnW t) = _
 rw [wantN_lines]
theorem z3f (C : RBx) (f : Fr) (t r : Nat) : (C.grant f t).line r = C.line r \/ (r = C.nxt t /\ C.grantB f t = true /\ (C.grant f t).line r = RLnW t) := by
 unfold RBx.grant
 by_cases h : C.grantB f t = true
 ·rw [if_pos h]
  by_cases e : r = C.nxt t
  ·by_cases hl : r < C.lines.length
   ·right
    refine ⟨e, h, ?_⟩
    unfold RBx.line
    rw [z4m, <- e, z0p _ _ _ _ _ hl, if_pos rfl]
   ·left
    unfold RBx.line
    rw [z4m, <- e, List.set_eq_of_length_le (by omega)]
  ·left
   unfold RBx.line
   rw [z4m, z0z _ _ _ _ _ e]
 ·rw [if_neg h]; exact .inl rfl
theorem z3g (C : RBx) (f : Fr) (r : Nat) : ∀ k, (C.grantN f k).line r = C.line r \/ ((C.grantN f k).line r).ph = 119
 | 0 => .inl rfl
 | k + 1 => by
  rcases z3f (C.grantN f k) f (C.waits.getD k 0) r with h | ⟨-, -, h⟩
  ·rcases z3g C f r k with h' | h'
   ·exact .inl (h.trans h')
   ·right
    show (((C.grantN f k).grant f _).line r).ph = 119
    rw [h]; exact h'
  ·right
   show (((C.grantN f k).grant f _).line r).ph = 119
   rw [h]; rfl
def LockU (C : RBx) : Prop := ∀ r r' s, C.lockB s r = true -> C.lockB s r' = true -> r = r'
theorem lock_lt {C : RBx} {s r : Nat} (h : C.lockB s r = true) : r < C.lines.length := by
 unfold RBx.lockB at h
 simp at h
 exact z4w (fun e => h.1 e)
theorem LockU.locked {C : RBx} (h : LockU C) {s r : Nat} (hl : C.lockB s r = true) : C.lockedBy s = some r := by
 unfold RBx.lockedBy
 have hr := lock_lt hl
 exact z5a _ _ r hr (fun j hj => by
  cases e : C.lockB s j with
  | false => rfl
  | true => have := h j r s e hl; omega) hl
theorem LockU.sub {C C' : RBx} (h : LockU C) (hs : ∀ s r, C'.lockB s r = true -> C.lockB s r = true) : LockU C' := fun r r' s a b => h r r' s (hs s r a) (hs s r' b)
theorem LockU.init (L : Lay) : LockU (RBx.init L) := by
 intro r r' s h
 unfold RBx.lockB at h
 have e : (RBx.init L).line r = RLn0 := z1l _ _ _ _ rfl
 rw [e] at h
 simp [RLn0] at h
theorem drop_sub {l : List Nat} {a b s : Nat} (h : a <= b) (hs : s ∈ l.drop b) : s ∈ l.drop a := by
 have e : l.drop b = (l.drop a).drop (b - a) := by rw [List.drop_drop]; congr 1; omega
 rw [e] at hs
 exact List.mem_of_mem_drop hs
def LnSub (x y : RLn) : Prop := x.ph ≠ 46 -> y.ph ≠ 46 /\ y.gone <= x.gone
theorem lock_sub {C C' : RBx} (hL : C'.L = C.L) {s r : Nat} (h : LnSub (C'.line r) (C.line r)) (hl : C'.lockB s r = true) : C.lockB s r = true := by
 unfold RBx.lockB at hl ⊢
 rw [hL] at hl
 simp only [Bool.and_eq_true, bne_iff_ne, ne_eq, List.contains_iff_mem] at hl ⊢
 obtain ⟨h1, h2⟩ := h hl.1
 exact ⟨h1, drop_sub h2 hl.2⟩
theorem LnSub.refl (x : RLn) : LnSub x x := fun h => ⟨h, Nat.le_refl _⟩
theorem step_sub {C : RBx} (f : Fr) (k r : Nat) : LnSub ((C.step f k).line r) (C.line r) := by
 by_cases e : r = k
 case neg => rw [z3e C f k r e]; exact LnSub.refl _
 subst e
 by_cases hr : r < C.lines.length
 case neg =>
  have hn : (C.step f r).lines.length = C.lines.length := by
   unfold RBx.step RBx.passed RBx.overtaken RBx.put
   repeat' split
   all_goals simp
  intro h
  have := z4w h
  omega
 have hp : ∀ x, (C.put r x).line r = x := fun x => by rw [z17 C r r x hr, if_pos rfl]
 have hov : (C.overtaken r).line r = { C.line r with marks := z27 (C.L.rt r).path.length, ph := 116 } := hp _
 unfold RBx.step
 by_cases h1 : (C.line r).ph = 119
 ·rw [if_pos h1]
  split
  ·rw [hp]; exact fun _ => ⟨by omega, Nat.le_refl _⟩
  ·split
   ·rw [hp]; exact fun _ => ⟨by omega, Nat.le_refl _⟩
   ·exact LnSub.refl _
 rw [if_neg h1]
 by_cases h1 : (C.line r).ph = 103
 ·rw [if_pos h1]
  split
  ·rw [hov]; exact fun _ => ⟨by omega, Nat.le_refl _⟩
  ·split
   ·rw [hp]; exact fun _ => ⟨by omega, Nat.le_refl _⟩
   ·split
    ·rw [hp]; exact fun _ => ⟨by omega, Nat.le_refl _⟩
    ·exact LnSub.refl _
 rw [if_neg h1]
 by_cases h1 : (C.line r).ph = 116
 ·rw [if_pos h1]
  unfold RBx.passed
  have hm : ∀ x : RLn, (C.line r).gone <= x.gone -> LnSub x (C.line r) := fun x hx _ => ⟨by omega, hx⟩
  have hg : (C.mkd f r).gone = (C.line r).gone := rfl
  repeat' split
  all_goals rw [hp]
  all_goals first
   | exact hm _ (Nat.le_refl _)
   | exact hm _ (Nat.le_succ _)
   | exact fun h => absurd rfl h
 rw [if_neg h1]
 by_cases h1 : (C.line r).ph = 100
 ·rw [if_pos h1]
  split
  ·rw [hov]; exact fun _ => ⟨by omega, Nat.le_refl _⟩
  ·split
   ·rw [hp]; exact fun _ => ⟨by omega, Nat.le_refl _⟩
   ·split
    ·have e : ({ C.put r RLn0 with sta := C.sta.set (C.line r).train (C.sta.getD (C.line r).train 0 - 1) } : RBx).line r = RLn0 := hp _
     rw [e]; exact fun h => absurd rfl h
    ·exact LnSub.refl _
 ·rw [if_neg h1]; exact LnSub.refl _
theorem doC_sub {C : RBx} (f : Fr) (c x r : Nat) : LnSub ((C.doC f c x).line r) (C.line r) := by
 unfold RBx.doC RBx.ask RBx.cancel
 by_cases h1 : c = 114
 ·rw [if_pos h1]
  split <;> exact LnSub.refl _
 rw [if_neg h1]
 by_cases h2 : c = 99
 ·rw [if_pos h2]
  split
  ·rename_i hc
   by_cases e : r = x - 65
   ·by_cases hl : r < C.lines.length
    ·rw [<- e, z17 C r r _ hl, if_pos rfl]
     intro _
     refine ⟨?_, Nat.le_refl _⟩
     unfold RBx.canc at hc
     rw [<- e] at hc
     simp at hc
     omega
    ·have e2 : (C.put (x - 65) ⟨100, (C.line (x - 65)).train, (C.line (x - 65)).been, (C.line (x - 65)).marks, (C.line (x - 65)).gone, if (C.line (x - 65)).been && f.occ.getD (C.L.rt (x - 65)).foot false then C.L.D else 0⟩).line r = C.line r := by
      unfold RBx.put RBx.line
      simp only
      rw [List.set_eq_of_length_le (by omega)]
     rw [e2]; exact LnSub.refl _
   ·rw [z4v _ _ _ e]; exact LnSub.refl _
  ·exact LnSub.refl _
 rw [if_neg h2]
 split <;> exact LnSub.refl _
theorem LockU.watchN {C : RBx} (h : LockU C) (f : Fr) (k : Nat) : LockU (C.watchN f k) := by
 obtain ⟨-, b, c, -⟩ := z0w C f k
 refine h.sub (fun s r hl => lock_sub b ?_ hl)
 unfold RBx.line
 rw [c]
 exact LnSub.refl _
theorem LockU.stepN {C : RBx} (h : LockU C) (f : Fr) : ∀ k, LockU (C.stepN f k)
 | 0 => h
 | k + 1 => (LockU.stepN h f k).sub (fun _ r hl => lock_sub (z5d (C.stepN f k) f k).2.1 (step_sub f k r) hl)
theorem LockU.doN {C : RBx} (h : LockU C) (f : Fr) : ∀ k, LockU (C.doN f k)
 | 0 => h
 | k + 1 => (LockU.doN h f k).sub (fun _ r hl => lock_sub (doC_keep (C.doN f k) f _ _).2.1 (doC_sub f _ _ r) hl)
theorem free_path {C : RBx} {f : Fr} {r : Nat} (h : C.free f r = true) {s : Nat} (hs : s < C.L.sw.length) (hp : s ∈ secs (C.L.rt r).path) : C.lockedBy s = none /\ f.occ.getD s false = false := by
 unfold RBx.free at h
 rw [List.all_eq_true] at h
 have := h s (List.mem_range.2 hs)
 unfold RBx.freeB at this
 have hh : has (C.L.rt r).path s = true := by unfold has; rw [List.contains_iff_mem]; exact hp
 rw [hh] at this
 simp only [Bool.true_and, Bool.and_eq_true, Bool.not_eq_true'] at this
 have ht := this.1
 unfold RBx.takenB at ht
 simp at ht
 refine ⟨?_, ht.2⟩
 cases e : C.lockedBy s with
 | none => rfl
 | some r' => rw [e] at ht; simp at ht
theorem locked_none {C : RBx} {s : Nat} (h : C.lockedBy s = none) (r : Nat) : C.lockB s r = false := by
 cases e : C.lockB s r with
 | false => rfl
 | true =>
  have := List.find?_eq_none.1 h r (List.mem_range.2 (lock_lt e))
  simp [e] at this
theorem grant_L (C : RBx) (f : Fr) (t : Nat) : (C.grant f t).L = C.L := by
 unfold RBx.grant
 split
 ·show (({ C with sta := C.more t } : RBx).wantN (C.nxt t) C.L.sw.length).L = C.L
  have : ∀ k, (({ C with sta := C.more t } : RBx).wantN (C.nxt t) k).L = C.L := by
   intro k
   induction k with
   | zero => rfl
   | succ k ih =>
    show ((({ C with sta := C.more t } : RBx).wantN (C.nxt t) k).wantK (C.nxt t) k).L = C.L
    unfold RBx.wantK
    split
    ·exact ih
    ·exact ih
  exact this _
 ·rfl
theorem LockU.grant {C : RBx} {q : List Nat} (hi : Inv { C with waits := q }) (h : LockU C) (f : Fr) (t : Nat) (ht : t < C.L.tns.length) (hj : C.sta.getD t 0 < (C.L.tn t).jny.length) : LockU (C.grant f t) := by
 intro r r' s h1 h2
 by_cases hg : C.grantB f t = true
 case neg =>
  have e : C.grant f t = C := by unfold RBx.grant; rw [if_neg hg]
  rw [e] at h1 h2
  exact h r r' s h1 h2
 have hfree : C.free f (C.nxt t) = true := by unfold RBx.grantB at hg; simp at hg; exact hg.1.2
 have hn : C.nxt t < C.L.rts.length := by
  have hm : C.L.tn t ∈ C.L.tns := by unfold Lay.tn; rw [z06 ht]; exact List.getElem_mem ht
  refine hi.lay.good.jnys _ hm _ ?_
  unfold RBx.nxt
  rw [z06 hj]
  exact List.getElem_mem hj
 have hro := hi.rt (r := C.nxt t) hn
 have hL := grant_L C f t
 have key : ∀ r, (C.grant f t).lockB s r = true -> (r = C.nxt t /\ s ∈ secs (C.L.rt (C.nxt t)).path) \/ C.lockB s r = true := by
  intro r hr
  rcases z3f C f t r with e | ⟨e, -, e2⟩
  ·right
   exact lock_sub hL (by rw [e]; exact LnSub.refl _) hr
  ·left
   refine ⟨e, ?_⟩
   unfold RBx.lockB at hr
   rw [e2, hL, e] at hr
   simp [RLnW] at hr
   exact hr
 have hno : s ∈ secs (C.L.rt (C.nxt t)).path -> ∀ r, C.lockB s r = false := by
  intro hs r
  obtain ⟨x, hx, e⟩ := List.mem_map.1 (show s ∈ (C.L.rt (C.nxt t)).path.map (·.1) from hs)
  have hsl : s < C.L.sw.length := by rw [<- e]; exact (hro.ps x hx).1
  exact locked_none (free_path hfree hsl hs).1 r
 rcases key r h1 with ⟨a, b⟩ | a <;> rcases key r' h2 with ⟨a', b'⟩ | a'
 ·omega
 ·rw [hno b r'] at a'; cases a'
 ·rw [hno b' r] at a; cases a
 ·exact h r r' s a a'
theorem LockU.grantN {C : RBx} {f : Fr} (h : LockU C) (hg : ∀ k, k <= C.waits.length -> Inv { C.grantN f k with waits := C.leftN f k ++ C.waits.drop k }) : ∀ k, k <= C.waits.length -> LockU (C.grantN f k)
 | 0, _ => h
 | k + 1, hk => by
  have hi := hg k (by omega)
  have hm : C.waits.getD k 0 ∈ C.leftN f k ++ C.waits.drop k := by
   rw [z06 (by omega), List.drop_eq_getElem_cons (by omega)]
   exact List.mem_append_right _ (List.mem_cons_self ..)
  obtain ⟨a, b⟩ := hi.wt _ hm
  exact LockU.grant hi (LockU.grantN h hg k (by omega)) f _ a b
theorem LockU.s4 {C : RBx} {f : Fr} (h : LockU C) (S : Stgs C f) : LockU (C.s4 f) := by
 have h1 : LockU (C.s1 f) := h.watchN f _
 have h2 : LockU (C.s2 f) := h1.stepN f _
 have h3 : LockU (C.s3 f) := h2.doN f _
 have h4 := h3.grantN S.g (C.s3 f).waits.length (Nat.le_refl _)
 exact h4
theorem whole_of {C : RBx} (hi : Inv C) (h : LockU C) {r : Nat} (hr : r < C.L.rts.length) (h1 : (C.line r).ph ≠ 46) (h2 : (C.line r).ph ≠ 116) {s : Nat} (hs : s ∈ secs (C.L.rt r).path) : C.lockedBy s = some r := by
 refine h.locked ?_
 unfold RBx.lockB
 rw [(hi.li r hr).g0 h2]
 simp only [Bool.and_eq_true, bne_iff_ne, ne_eq, List.contains_iff_mem, List.drop_zero]
 exact ⟨h1, hs⟩
structure KI (C : RBx) : Prop where
 lk : LockU C
theorem KI.init (L : Lay) : KI (RBx.init L) := ⟨LockU.init L⟩
theorem KI.cyc {B : PBx} {C : RBx} (h : KI C) (hs : Sim B C) (hi : Inv C) (s : ByteArray) : KI (C.cyc s) := by
 unfold RBx.cyc
 split
 ·rename_i hf
  have S := stages hs hi s hf
  exact ⟨h.lk.s4 S⟩
 ·exact h
theorem z3h {w : World} {v : Value} {ll : List (List Nat)} (h : IRows w v ll) (r : Nat) (hr : r < ll.length) : ∃ g off cap ar cr, v = .slice (some ⟨g, off, none⟩) ll.length cap /\ g < w.heap.size /\ w.cell? ⟨g, off + r, none⟩ = some (.slice ar ll[r].length cr) /\ Ints w (.slice ar ll[r].length cr) ll[r] := by
 obtain ⟨ao, cap, rfl, -, -, h3⟩ := SlAt.open h
 obtain ⟨g, off, rfl, hg, cs, -, hC, hc⟩ := h3 r hr
 obtain ⟨u, rfl, hu⟩ := hC
 obtain ⟨ar, cr, rfl, -⟩ := SlAt.open hu
 have := hc 0 (by omega)
 exact ⟨g, off, cap, ar, cr, rfl, hg, by simpa using this, hu⟩
theorem z3i {w : World} {v : Value} {l : List Nat} (h : Ints w v l) : ∃ ao cap, v = .slice ao l.length cap /\ l.length <= maxLen /\ ∀ i (_ : i < l.length), ∃ g off, ao = some ⟨g, off, none⟩ /\ g < w.heap.size /\ w.cell? ⟨g, off + i, none⟩ = some (.int .i64 (l[i] : Nat)) := by
 obtain ⟨ao, cap, rfl, h1, h2, h3⟩ := SlAt.open h
 refine ⟨ao, cap, rfl, by omega, fun i hi => ?_⟩
 obtain ⟨g, off, rfl, hg, cs, -, hC, hc⟩ := h3 i hi
 have hC' : cs = [.int .i64 (l[i] : Nat)] := hC
 subst hC'
 have := hc 0 (by omega)
 exact ⟨g, off, rfl, hg, by simpa using this⟩
theorem rts_path {L : Lay} {r : Nat} (hr : r < L.rts.length) : (L.rts.map (fun r => secs r.path))[r]'(by simpa using hr) = secs (L.rt r).path := by
 rw [List.getElem_map]
 unfold Lay.rt
 rw [z06 hr]
def allP (l : List Nat) (p : Nat -> Bool) : Bool := l.all p
set_option maxRecDepth 100000 in
set_option maxHeartbeats 2000000 in
theorem kwhole_any (g : Nat) (L : Lay) (r : Nat) (t : ByteArray) (w : World) (h : KPl w g L) (hr : r < L.rts.length) (hr2 : L.rts.length <= 100) (hp : ∀ s, s ∈ secs (L.rt r).path -> s < t.size) :
  Calls Tryz.prog 23 #[.pointer (some ⟨g, 0, none⟩), .int .i64 r, .string t] w fun e w' => e = .returned (.bool (allP (secs (L.rt r).path) (fun s => pk t s == 65 + r))) /\ w' = w := by
 obtain ⟨vh, vp, vf, va, vk, vw, vs, vj, e, -, -, -, a4, -⟩ := h
 obtain ⟨⟨-, -, -, -, -, -, c6, -⟩, hg⟩ := z0n e
 obtain ⟨ga, oa, ca, ar, cr, rfl, hga, xr, hui⟩ := z3h a4 r (by simpa using hr)
 rw [rts_path hr] at xr hui
 rw [List.length_map] at c6
 obtain ⟨l, hl⟩ : ∃ l, l = secs (L.rt r).path := ⟨_, rfl⟩
 rw [<- hl] at xr hui hp ⊢
 obtain ⟨ar', cr', hv, hm, hrow⟩ := z3i hui
 simp only [Value.slice.injEq] at hv
 obtain ⟨rfl, -, rfl⟩ := hv
 unfold maxLen at hm
 obtain ⟨nr, hnr⟩ : ∃ n, n = L.rts.length := ⟨_, rfl⟩
 rw [<- hnr] at c6 hr hr2
 have l1 : (r : Int) < nr := by omega
 have HP := zh hp
 have HR := zh hrow
 obtain ⟨Z, hZ⟩ : ∃ Z, Z = allP l (fun s => pk t s == 65 + r) := ⟨_, rfl⟩
 rw [<- hZ]
 have HZ := zh hZ
 clear e a4 hl hui hnr hp hrow hZ
 go_enter Tryz.func23, Tryz.ntmps23
 go_wp2
 go_loop [7] (fun i => ∃ k : Nat, k <= l.length /\ i = .int .i64 k /\ ∀ j (h : j < l.length), j < k -> pk t l[j] = 65 + r) (fun i => l.length - (intOf i).toNat)
 case atStart => exact ⟨0, Nat.zero_le _, rfl, fun j h hj => by omega⟩
 case round =>
  obtain ⟨k, hk, rfl, hko⟩ := hrel
  have HKO := zh hko
  clear hko
  by_cases hlt : k < l.length
  ·obtain ⟨gx, ox, rfl, hgx, xk⟩ := uh HR k hlt
   have hs := uh HP l[k] (List.getElem_mem hlt)
   have HPK := zh (show pk t l[k] = 65 + r -> ∀ j (h : j < l.length), j < k + 1 -> pk t l[j] = 65 + r from fun e j h hj => by
    by_cases e2 : j = k
    ·subst e2; exact e
    ·exact uh HKO j h (by omega))
   have HF := zh (show pk t l[k] ≠ 65 + r -> false = Z from fun e => by
    rw [uh HZ]
    unfold allP
    symm
    rw [List.all_eq_false]
    exact ⟨l[k], List.getElem_mem hlt, by simpa using e⟩)
   obtain ⟨s, hse⟩ : ∃ s, s = l[k] := ⟨_, rfl⟩
   rw [<- hse] at xk hs HPK HF
   obtain ⟨z, hz⟩ : ∃ z, t[s].toNat = z := ⟨_, rfl⟩
   have hpz : pk t s = z := (z0j t s hs).symm.trans hz
   rw [hpz] at HPK HF
   have hz256 : z < 256 := by rw [<- hz]; exact t[s].toNat_lt
   have l2 : (k : Int) < l.length := by omega
   have l3 : (s : Int) < t.size := by omega
   clear hse hpz HR
   by_cases e1 : z = 65 + r
   ·have eb : ((z : Int) != 65 + (r : Int)) = false := by simp; omega
    have HK2 := zh (uh HPK e1)
    go_wp2
    exact ⟨⟨k + 1, by omega, by go_num, uh HK2⟩, by simp [intOf]; omega⟩
   ·have eb : ((z : Int) != 65 + (r : Int)) = true := by simp; omega
    have HZ2 := zh (uh HF e1)
    go_wp2
    go_ret
    exact ⟨z04 (uh HZ2), rfl⟩
  ·have l2 : ¬ (k : Int) < l.length := by omega
   have HZ2 := zh (show true = Z by
    rw [uh HZ]
    unfold allP
    symm
    rw [List.all_eq_true]
    intro x hx
    obtain ⟨j, hj, rfl⟩ := List.mem_iff_getElem.1 hx
    have := uh HKO j hj (by omega)
    simpa using this)
   go_wp2
   go_ret
   exact ⟨z04 (uh HZ2), rfl⟩
set_option maxRecDepth 100000 in
set_option maxHeartbeats 2000000 in
theorem kempty_any (g : Nat) (L : Lay) (r : Nat) (t : ByteArray) (w : World) (h : KPl w g L) (hr : r < L.rts.length) (hp : ∀ s, s ∈ secs (L.rt r).path -> s < t.size) :
  Calls Tryz.prog 46 #[.pointer (some ⟨g, 0, none⟩), .int .i64 r, .string t] w fun e w' => e = .returned (.bool (allP (secs (L.rt r).path) (fun s => pk t s == 48))) /\ w' = w := by
 obtain ⟨vh, vp, vf, va, vk, vw, vs, vj, e, -, -, -, a4, -⟩ := h
 obtain ⟨⟨-, -, -, -, -, -, c6, -⟩, hg⟩ := z0n e
 obtain ⟨ga, oa, ca, ar, cr, rfl, hga, xr, hui⟩ := z3h a4 r (by simpa using hr)
 rw [rts_path hr] at xr hui
 rw [List.length_map] at c6
 obtain ⟨l, hl⟩ : ∃ l, l = secs (L.rt r).path := ⟨_, rfl⟩
 rw [<- hl] at xr hui hp ⊢
 obtain ⟨ar', cr', hv, hm, hrow⟩ := z3i hui
 simp only [Value.slice.injEq] at hv
 obtain ⟨rfl, -, rfl⟩ := hv
 unfold maxLen at hm
 obtain ⟨nr, hnr⟩ : ∃ n, n = L.rts.length := ⟨_, rfl⟩
 rw [<- hnr] at c6 hr
 have l1 : (r : Int) < nr := by omega
 have HP := zh hp
 have HR := zh hrow
 obtain ⟨Z, hZ⟩ : ∃ Z, Z = allP l (fun s => pk t s == 48) := ⟨_, rfl⟩
 rw [<- hZ]
 have HZ := zh hZ
 clear e a4 hl hui hnr hp hrow hZ
 go_enter Tryz.func46, Tryz.ntmps46
 go_wp2
 go_loop [7] (fun i => ∃ k : Nat, k <= l.length /\ i = .int .i64 k /\ ∀ j (h : j < l.length), j < k -> pk t l[j] = 48) (fun i => l.length - (intOf i).toNat)
 case atStart => exact ⟨0, Nat.zero_le _, rfl, fun j h hj => by omega⟩
 case round =>
  obtain ⟨k, hk, rfl, hko⟩ := hrel
  have HKO := zh hko
  clear hko
  by_cases hlt : k < l.length
  ·obtain ⟨gx, ox, rfl, hgx, xk⟩ := uh HR k hlt
   have hs := uh HP l[k] (List.getElem_mem hlt)
   have HPK := zh (show pk t l[k] = 48 -> ∀ j (h : j < l.length), j < k + 1 -> pk t l[j] = 48 from fun e j h hj => by
    by_cases e2 : j = k
    ·subst e2; exact e
    ·exact uh HKO j h (by omega))
   have HF := zh (show pk t l[k] ≠ 48 -> false = Z from fun e => by
    rw [uh HZ]
    unfold allP
    symm
    rw [List.all_eq_false]
    exact ⟨l[k], List.getElem_mem hlt, by simpa using e⟩)
   obtain ⟨s, hse⟩ : ∃ s, s = l[k] := ⟨_, rfl⟩
   rw [<- hse] at xk hs HPK HF
   obtain ⟨z, hz⟩ : ∃ z, t[s].toNat = z := ⟨_, rfl⟩
   have hpz : pk t s = z := (z0j t s hs).symm.trans hz
   rw [hpz] at HPK HF
   have l2 : (k : Int) < l.length := by omega
   have l3 : (s : Int) < t.size := by omega
   clear hse hpz HR
   by_cases e1 : z = 48
   ·have HK2 := zh (uh HPK e1)
    subst e1
    go_wp2
    exact ⟨⟨k + 1, by omega, by go_num, uh HK2⟩, by simp [intOf]; omega⟩
   ·have eb : ((z : Int) != 48) = true := by simp; omega
    have eb2 : ((z : Int) == 48) = false := by simp; omega
    have HZ2 := zh (uh HF e1)
    go_wp2
    go_ret
    exact ⟨z04 (uh HZ2), rfl⟩
  ·have l2 : ¬ (k : Int) < l.length := by omega
   have HZ2 := zh (show true = Z by
    rw [uh HZ]
    unfold allP
    symm
    rw [List.all_eq_true]
    intro x hx
    obtain ⟨j, hj, rfl⟩ := List.mem_iff_getElem.1 hx
    have := uh HKO j hj (by omega)
    simpa using this)
   go_wp2
   go_ret
   exact ⟨z04 (uh HZ2), rfl⟩
theorem brow_at {w : World} {v : Value} {ll : List (List Nat)} (h : BRows w v ll) (r : Nat) (hr : r < ll.length) : ∃ g off cap ar cr, v = .slice (some ⟨g, off, none⟩) ll.length cap /\ g < w.heap.size /\ w.cell? ⟨g, off + r, none⟩ = some (.slice ar ll[r].length cr) /\ Byts w (.slice ar ll[r].length cr) ll[r] := by
 obtain ⟨ao, cap, rfl, -, -, h3⟩ := SlAt.open h
 obtain ⟨g, off, rfl, hg, cs, -, hC, hc⟩ := h3 r hr
 obtain ⟨u, rfl, hu⟩ := hC
 obtain ⟨ar, cr, rfl, -⟩ := SlAt.open hu
 have := hc 0 (by omega)
 exact ⟨g, off, cap, ar, cr, rfl, hg, by simpa using this, hu⟩
theorem byts_at {w : World} {v : Value} {l : List Nat} (h : Byts w v l) : ∃ ao cap, v = .slice ao l.length cap /\ l.length <= maxLen /\ ∀ i (_ : i < l.length), ∃ g off, ao = some ⟨g, off, none⟩ /\ g < w.heap.size /\ w.cell? ⟨g, off + i, none⟩ = some (.int .u8 (l[i] : Nat)) := by
 obtain ⟨ao, cap, rfl, h1, h2, h3⟩ := SlAt.open h
 refine ⟨ao, cap, rfl, by omega, fun i hi => ?_⟩
 obtain ⟨g, off, rfl, hg, cs, -, hC, hc⟩ := h3 i hi
 have hC' : cs = [.int .u8 (l[i] : Nat)] := hC
 subst hC'
 have := hc 0 (by omega)
 exact ⟨g, off, rfl, hg, by simpa using this⟩
theorem rts_want {L : Lay} {r : Nat} (hr : r < L.rts.length) : (L.rts.map (z2y L.sw.length))[r]'(by simpa using hr) = z2y L.sw.length (L.rt r) := by
 rw [List.getElem_map]
 unfold Lay.rt
 rw [z06 hr]
theorem want_at {w : World} {v : Value} {L : Lay} (h : BRows w v (L.rts.map (z2y L.sw.length))) {r : Nat} (hr : r < L.rts.length) (ho : RtOK L (L.rt r)) : ∃ g off cap gr or_ cr, v = .slice (some ⟨g, off, none⟩) L.rts.length cap /\ g < w.heap.size /\ (0 < L.sw.length -> w.cell? ⟨g, off + r, none⟩ = some (.slice (some ⟨gr, or_, none⟩) L.sw.length cr) /\ gr < w.heap.size /\ ∀ s, s < L.sw.length -> w.cell? ⟨gr, or_ + s, none⟩ = some (.int .u8 (L.wantsF r s : Nat))) := by
 obtain ⟨g, off, cap, ar, cr, hv, hg, hx, hu⟩ := brow_at h r (by simpa using hr)
 rw [rts_want hr] at hx hu
 obtain ⟨ao, cp, hv2, -, hrow⟩ := byts_at hu
 rw [z4j] at hx hv2
 simp only [Value.slice.injEq] at hv2
 obtain ⟨rfl, -, rfl⟩ := hv2
 rw [List.length_map] at hv
 by_cases h0 : 0 < L.sw.length
 ·obtain ⟨gr, or_, rfl, hgr, -⟩ := hrow 0 (by rw [z4j]; exact h0)
  refine ⟨g, off, cap, gr, or_, cr, hv, hg, fun _ => ⟨hx, hgr, fun s hs => ?_⟩⟩
  obtain ⟨g2, o2, e2, -, hc⟩ := hrow s (by rw [z4j]; exact hs)
  simp only [Option.some.injEq, Addr.mk.injEq, and_true] at e2
  obtain ⟨rfl, rfl⟩ := e2
  rw [hc]
  have := wantRow_get ho s
  rw [z06 (by rw [z4j]; exact hs)] at this
  rw [this]
 ·exact ⟨g, off, cap, 0, 0, cr, hv, hg, fun h => absurd h h0⟩
theorem Inv.ph256 {C : RBx} (h : ∀ x, x ∈ C.phasesT -> x < 256) (r : Nat) (hr : r < C.lines.length) : pk (phS C) r = (C.line r).ph := by
 unfold phS
 rw [z26 h]
 unfold RBx.phasesT RBx.line
 rw [z06 (by simpa using hr), z06 hr, List.getElem_map]
def PhOK (C : RBx) : Prop := ∀ r, (C.line r).ph = 46 \/ (C.line r).ph = 119 \/ (C.line r).ph = 103 \/ (C.line r).ph = 116 \/ (C.line r).ph = 102 \/ (C.line r).ph = 100
theorem PhOK.small {C : RBx} (h : PhOK C) : ∀ x, x ∈ C.phasesT -> x < 256 := by
 intro x hx
 obtain ⟨y, hy, rfl⟩ := List.mem_map.1 hx
 obtain ⟨r, hr, rfl⟩ := List.mem_iff_getElem.1 hy
 have := h r
 unfold RBx.line at this
 rw [z06 hr] at this
 omega
theorem PhOK.init (L : Lay) : PhOK (RBx.init L) := by
 intro r
 have e : (RBx.init L).line r = RLn0 := z1l _ _ _ _ rfl
 rw [e]; exact .inl rfl
theorem PhOK.put {C : RBx} (h : PhOK C) (k : Nat) (x : RLn) (hx : x.ph = 46 \/ x.ph = 119 \/ x.ph = 103 \/ x.ph = 116 \/ x.ph = 102 \/ x.ph = 100) : PhOK (C.put k x) := by
 intro r
 by_cases e : r = k
 ·by_cases hl : k < C.lines.length
  ·rw [z17 C k r x hl, if_pos e]; exact hx
  ·have e2 : (C.put k x).line r = C.line r := by
    unfold RBx.put RBx.line
    simp only
    rw [List.set_eq_of_length_le (by omega)]
   rw [e2]; exact h r
 ·rw [z4v _ _ _ e]; exact h r
theorem PhOK.step {C : RBx} (h : PhOK C) (f : Fr) (k : Nat) : PhOK (C.step f k) := by
 have hk := h k
 unfold RBx.step RBx.passed RBx.overtaken
 repeat' split
 all_goals first
  | exact h
  | exact h.put k _ hk
  | exact h.put k _ (.inl rfl)
  | exact h.put k _ (.inr (.inl rfl))
  | exact h.put k _ (.inr (.inr (.inl rfl)))
  | exact h.put k _ (.inr (.inr (.inr (.inl rfl))))
  | exact h.put k _ (.inr (.inr (.inr (.inr (.inl rfl)))))
  | exact h.put k _ (.inr (.inr (.inr (.inr (.inr rfl)))))
theorem PhOK.stepN {C : RBx} (h : PhOK C) (f : Fr) : ∀ k, PhOK (C.stepN f k)
 | 0 => h
 | k + 1 => (PhOK.stepN h f k).step f k
theorem PhOK.doN {C : RBx} (h : PhOK C) (f : Fr) (k : Nat) : PhOK (C.doN f k) := by
 intro r
 rcases z4x C f r k with e | e
 ·rw [e]; exact h r
 ·omega
theorem PhOK.s4 {C : RBx} (h : PhOK C) (f : Fr) : PhOK (C.s4 f) := by
 have h1 : PhOK (C.s1 f) := by
  intro r
  have := (z0w C f C.L.sw.length).2.2.1
  have e : (C.s1 f).line r = C.line r := by unfold RBx.line; exact congrArg (fun l => l.getD r RLn0) this
  rw [e]; exact h r
 have h2 : PhOK (C.s2 f) := h1.stepN f _
 have h3 : PhOK (C.s3 f) := h2.doN f _
 intro r
 rcases z3g (C.s3 f) f r (C.s3 f).waits.length with e | e
 ·have e' : (C.s4 f).line r = (C.s3 f).line r := e
  rw [e']; exact h3 r
 ·have e' : ((C.s4 f).line r).ph = 119 := e
  omega
structure KJ (C : RBx) : Prop where
 ki : KI C
 ph : PhOK C
theorem KJ.init (L : Lay) : KJ (RBx.init L) := ⟨KI.init L, PhOK.init L⟩
theorem KJ.cyc {B : PBx} {C : RBx} (h : KJ C) (hs : Sim B C) (hi : Inv C) (s : ByteArray) : KJ (C.cyc s) := by
 refine ⟨h.ki.cyc hs hi s, ?_⟩
 unfold RBx.cyc
 split
 ·exact h.ph.s4 _
 ·exact h.ph
theorem lock_pk {C : RBx} (hi : Inv C) {x : Nat} (hx : x < C.L.sw.length) : pk (lkS C) x = lockC (C.lockedBy x) := by
 have h2 := hi.lay.rl
 have hr : ∀ y r, C.lockedBy y = some r -> r <= 100 := by
  intro y r hyr
  unfold RBx.lockedBy at hyr
  have := List.mem_of_find?_eq_some hyr
  have := List.mem_range.1 this
  rw [hi.ll] at this
  omega
 unfold lkS
 rw [z26 (fun z hz => by
  obtain ⟨y, -, rfl⟩ := List.mem_map.1 hz
  exact lock_256 _ (hr y))]
 unfold RBx.locksT
 rw [z06 (by simpa using hx), List.getElem_map, List.getElem_range]
theorem lamp_pk {C : RBx} {s : ByteArray} {r : Nat} (hr : r < (C.s4 (C.L.frOf s)).lines.length) : pk (laS C s) r = if ((C.s4 (C.L.frOf s)).line r).ph = 103 then 103 else 114 := by
 unfold laS
 rw [z26 (fun x hx => by
  obtain ⟨y, -, rfl⟩ := List.mem_map.1 hx
  unfold rlampC
  split <;> omega)]
 unfold RBx.lampsT RBx.line
 rw [z06 (by simpa using hr), z06 hr, List.getElem_map]
 rfl
theorem occ_at {L : Lay} {s : ByteArray} (x : Nat) (hx : x < L.sw.length) : (L.frOf s).occ.getD x false = (pk s x == 49) := by
 show ((List.range L.sw.length).map (fun i => pk s i == 49)).getD x false = _
 rw [z06 (by simpa using hx), List.getElem_map, List.getElem_range]
theorem rep_at {L : Lay} {s : ByteArray} (x : Nat) (hx : x < L.sw.length) : (L.frOf s).rep.getD x 0 = L.repF s x := by
 show ((List.range L.sw.length).map (L.repF s)).getD x 0 = _
 rw [z06 (by simpa using hx), List.getElem_map, List.getElem_range]
theorem occ_byte {L : Lay} {s : ByteArray} (h : GoodF L s) {x : Nat} (hx : x < L.sw.length) : (L.frOf s).occ.getD x false = false ↔ pk s x = 48 := by
 rw [occ_at x hx]
 have := h.occ x hx
 unfold okO at this
 simp at this
 constructor
 ·intro e; simp at e; omega
 ·intro e; simp; omega
theorem rep_pts {L : Lay} {s : ByteArray} {k : Nat} (hk : k < (z09 0 L.sw).length) : (z09 0 L.sw)[k] < L.sw.length /\ (L.frOf s).rep.getD (z09 0 L.sw)[k] 0 = pk s (L.sw.length + k) /\ L.sw.getD (z09 0 L.sw)[k] false = true := by
 obtain ⟨-, a2, a3, a4⟩ := pts_get L.sw 0 k hk
 rw [Nat.sub_zero] at a2 a3 a4
 refine ⟨a2, ?_, a3⟩
 rw [rep_at _ a2]
 unfold Lay.repF Lay.posR
 rw [if_pos a3, a4]
end Go.Proofs.YtkbpocecbcaiiabGreatDoor
namespace Go.Proofs.YtkbpocecbcaiiabGreatDoor
open Go.RowKit
end Go.Proofs.YtkbpocecbcaiiabGreatDoor
namespace Go.Proofs.YtkbpocecbcaiiabGreatDoor
open Go.RowKit
def FrsIn (w : World) (ao : Option Addr) (len : Nat) (zs : List ByteArray) : Prop := len <= maxLen /\ (len = 0 \/ ∃ g off, ao = some ⟨g, off, none⟩ /\ ∀ j, j < len -> w.cell? ⟨g, off + j, none⟩ = some (.string (zs.getD j ByteArray.empty)))
def FrsOK (w : World) (ao : Option Addr) (len : Nat) (zs : List ByteArray) : Prop := FrsIn w ao len zs /\ ∀ j, (zs.getD j ByteArray.empty).size <= maxLen
theorem KRun.kj {n : Nat} {w0 w : World} {D R : Nat -> Prop} {gb gp : Nat} {L : Lay} {C : RBx} (h : KRun n w0 w D R gb gp L C) (hJ : KJ C) (s : ByteArray) : KJ (C.cyc s) := by
 obtain ⟨B, -, hs, hi⟩ := h.box
 exact hJ.cyc hs hi s
theorem KRun.stg {n : Nat} {w0 w : World} {D R : Nat -> Prop} {gb gp : Nat} {L : Lay} {C : RBx} (h : KRun n w0 w D R gb gp L C) {s : ByteArray} (hf : C.L.frameB s = true) : Stgs C (C.L.frOf s) /\ C.cyc s = C.s4 (C.L.frOf s) := by
 obtain ⟨B, -, hs, hi⟩ := h.box
 exact ⟨stages hs hi s hf, by unfold RBx.cyc; rw [if_pos hf]⟩
theorem z1i {w : World} {g : Nat} {t0 t1 t2 t3 : ByteArray} (h : w.heap[g]? = some (z4s t0 t1 t2 t3)) :
  (w.cell? ⟨g, 0, none⟩ = some (.string t0) /\ w.cell? ⟨g, 1, none⟩ = some (.string t1) /\ w.cell? ⟨g, 2, none⟩ = some (.string t2) /\ w.cell? ⟨g, 3, none⟩ = some (.string t3)) /\ g < w.heap.size :=
 ⟨⟨z0a h 0, z0a h 1, z0a h 2, z0a h 3⟩, z0c h⟩
end Go.Proofs.YtkbpocecbcaiiabGreatDoor
