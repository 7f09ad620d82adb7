import Derived.Test.YtkbpocecbcaiiabGreatDoorN54
namespace Go.Proofs.YtkbpocecbcaiiabGreatDoor
open Go.RowKit
theorem step_sta (C : RBx) (f : Fr) (k : Nat) : (C.step f k).sta = C.sta \/ ((C.line k).ph = 100 /\ (C.step f k).sta = C.sta.set (C.line k).train (C.sta.getD (C.line k).train 0 - 1) /\ (C.step f k).lines = C.lines.set k RLn0) := by
 unfold RBx.step RBx.passed RBx.overtaken
 repeat' split
 all_goals first
  | exact .inl rfl
  | exact .inr ⟨by assumption, rfl, rfl⟩
theorem put_train {C : RBx} {k : Nat} {x : RLn} (hx : x.ph ≠ 46 -> x.train = (C.line k).train) : ((C.put k x).line k).ph ≠ 46 -> ((C.put k x).line k).train = (C.line k).train := by
 intro h
 rcases put_or C k k x with e | e
 ·rw [e] at h ⊢; exact hx h
 ·rw [e]
theorem rstep_train (C : RBx) (f : Fr) (k : Nat) : ((C.step f k).line k).ph ≠ 46 -> ((C.step f k).line k).train = (C.line k).train := by
 have hov : C.overtaken k = C.put k { C.line k with marks := z27 (C.L.rt k).path.length, ph := 116 } := rfl
 have hd : ∀ D : RBx, D.lines = (C.put k RLn0).lines -> (D.line k).ph ≠ 46 -> (D.line k).train = (C.line k).train := by
  intro D hD h
  have e : D.line k = (C.put k RLn0).line k := by unfold RBx.line; rw [hD]
  rw [e] at h ⊢
  exact put_train (fun h => absurd rfl h) h
 unfold RBx.step RBx.passed
 rw [hov]
 repeat' split
 all_goals first
  | exact fun _ => rfl
  | exact put_train (fun _ => rfl)
  | exact put_train (fun h => absurd rfl h)
  | exact hd _ rfl
def JnOK (C : RBx) : Prop := ∀ r, (C.line r).ph ≠ 46 -> (C.L.tn (C.line r).train).jny.getD (C.sta.getD (C.line r).train 0 - 1) 0 = r
theorem JnOK.init (L : Lay) : JnOK (RBx.init L) := by
 intro r h
 have e : (RBx.init L).line r = RLn0 := z1l _ _ _ _ rfl
 rw [e] at h
 exact absurd rfl h
theorem JnOK.step {C : RBx} (hi : Inv C) (h : JnOK C) (f : Fr) (k : Nat) : JnOK (C.step f k) := by
 have hL := (z5d C f k).2.1
 intro r hr
 rw [hL]
 by_cases e : r = k
 ·subst e
  have ht := rstep_train C f r hr
  rw [ht]
  rcases step_sta C f r with h1 | ⟨-, -, h3⟩
  ·rw [h1]
   refine h r (fun h0 => hr ?_)
   have hs := step_sub (C := C) f r r
   exact absurd h0 (hs hr).1
  ·exfalso
   apply hr
   unfold RBx.line
   rw [h3]
   rcases Nat.lt_or_ge r C.lines.length with hl | hl
   ·rw [z0p _ _ _ _ _ hl, if_pos rfl]; rfl
   ·rw [List.set_eq_of_length_le hl, List.getD_eq_getElem?_getD, List.getElem?_eq_none hl]; rfl
 ·rw [z3e C f k r e] at hr ⊢
  have hj := h r hr
  rcases step_sta C f k with h1 | ⟨h1, h2, -⟩
  ·rw [h1]; exact hj
  ·rw [h2]
   have hrl := z4w hr
   have hkl := z4w (C := C) (r := k) (by omega)
   rw [hi.ll] at hrl hkl
   have hne : (C.line r).train ≠ (C.line k).train := fun et => e (hi.one r k hrl hkl hr (by omega) et)
   rw [z0z _ _ _ _ _ hne]
   exact hj
theorem JnOK.stepN {C : RBx} (h : JnOK C) (f : Fr) {m : Nat} (hi : ∀ k, k <= m -> Inv (C.stepN f k)) : ∀ k, k <= m -> JnOK (C.stepN f k)
 | 0, _ => h
 | k + 1, hk => (JnOK.stepN h f hi k (by omega)).step (hi k (by omega)) f k
theorem doC_train (C : RBx) (f : Fr) (c x r : Nat) : ((C.doC f c x).line r).ph ≠ 46 -> (C.line r).ph ≠ 46 /\ ((C.doC f c x).line r).train = (C.line r).train := by
 intro h
 refine ⟨(doC_sub f c x r h).1, ?_⟩
 revert h
 unfold RBx.doC RBx.ask RBx.cancel
 repeat' split
 all_goals first
  | exact fun _ => rfl
  | (intro h; by_cases e : r = x - 65; (subst e; exact put_train (C := C) (fun _ => rfl) h); (rw [z4v _ _ _ e]))
theorem JnOK.doC {C : RBx} (h : JnOK C) (f : Fr) (c x : Nat) : JnOK (C.doC f c x) := by
 obtain ⟨-, hL, -, hs⟩ := doC_keep C f c x
 intro r hr
 obtain ⟨h1, h2⟩ := doC_train C f c x r hr
 rw [hL, hs, h2]
 exact h r h1
theorem JnOK.doN {C : RBx} (h : JnOK C) (f : Fr) : ∀ k, JnOK (C.doN f k)
 | 0 => h
 | k + 1 => (JnOK.doN h f k).doC f _ _
theorem JnOK.grant {C : RBx} {q : List Nat} (hi : Inv { C with waits := q }) (h : JnOK C) (f : Fr) (t : Nat) (ht : t < C.L.tns.length) : JnOK (C.grant f t) := by
 by_cases hg : C.grantB f t = true
 case neg =>
  have e : C.grant f t = C := by unfold RBx.grant; rw [if_neg hg]
  rw [e]; exact h
 have htl : t < C.sta.length := by have := hi.st; simp only at this; omega
 have hset : C.isSet t = false := by unfold RBx.grantB at hg; simp at hg; exact hg.1.1
 intro r hr
 rw [grant_L, z5f hg]
 unfold RBx.more
 rcases z3f C f t r with e | ⟨e1, -, e2⟩
 ·rw [e] at hr ⊢
  have hne : (C.line r).train ≠ t := by
   intro et
   unfold RBx.isSet at hset
   rw [List.any_eq_false] at hset
   have := hset r (List.mem_range.2 (z4w hr))
   unfold RBx.setB at this
   simp [et] at this
   exact hr this
  rw [z0z _ _ _ _ _ hne]
  exact h r hr
 ·rw [e2]
  show (C.L.tn t).jny.getD ((C.sta.set t (C.sta.getD t 0 + 1)).getD t 0 - 1) 0 = r
  rw [z0p _ _ _ _ _ htl, if_pos rfl, Nat.add_sub_cancel, e1]
  rfl
theorem JnOK.grantN {C : RBx} {f : Fr} (h : JnOK C) (hg : ∀ k, k <= C.waits.length -> Inv { C.grantN f k with waits := C.leftN f k ++ C.waits.drop k }) : ∀ k, k <= C.waits.length -> JnOK (C.grantN f k)
 | 0, _ => h
 | k + 1, hk => by
  have hi := hg k (by omega)
  have hm : C.waits.getD k 0 ∈ C.leftN f k ++ C.waits.drop k := by
   rw [z06 (by omega), List.drop_eq_getElem_cons (by omega)]
   exact List.mem_append_right _ (List.mem_cons_self ..)
  obtain ⟨a, -⟩ := hi.wt _ hm
  exact JnOK.grant hi (JnOK.grantN h hg k (by omega)) f _ a
theorem JnOK.s4 {C : RBx} {f : Fr} (h : JnOK C) (S : Stgs C f) : JnOK (C.s4 f) := by
 have h1 : JnOK (C.s1 f) := by
  obtain ⟨-, b, c, d, -⟩ := z0w C f C.L.sw.length
  intro r hr
  have e : (C.s1 f).line r = C.line r := by unfold RBx.line; exact congrArg (fun l => l.getD r RLn0) c
  have es : (C.s1 f).sta = C.sta := d
  rw [e] at hr ⊢
  rw [es, S.l1]
  exact h r hr
 have h2 : JnOK (C.s2 f) := by
  rw [S.n2]
  exact JnOK.stepN h1 f (m := C.L.rts.length) S.t _ (Nat.le_refl _)
 have h3 : JnOK (C.s3 f) := h2.doN f _
 exact h3.grantN S.g (C.s3 f).waits.length (Nat.le_refl _)
theorem stepN_sta {C : RBx} (hi : Inv C) (f : Fr) (t : Nat) : ∀ k, k <= C.L.rts.length -> (C.stepN f k).sta.getD t 0 = C.sta.getD t 0 \/ ∃ r, r < k /\ (C.line r).ph = 100 /\ (C.line r).train = t /\ (C.stepN f k).sta.getD t 0 = C.sta.getD t 0 - 1
 | 0, _ => .inl rfl
 | k + 1, hk => by
  have ih := stepN_sta hi f t k (by omega)
  have hl : (C.stepN f k).line k = C.line k := z4k C f k k (Nat.le_refl _)
  show ((C.stepN f k).step f k).sta.getD t 0 = _ \/ ∃ r, r < k + 1 /\ _ /\ _ /\ ((C.stepN f k).step f k).sta.getD t 0 = _
  rcases step_sta (C.stepN f k) f k with h1 | ⟨h1, h2, -⟩
  ·rw [h1]
   rcases ih with h | ⟨r, a, b⟩
   ·exact .inl h
   ·exact .inr ⟨r, by omega, b⟩
  ·rw [hl] at h1 h2
   rw [h2]
   by_cases e : t = (C.line k).train
   ·subst e
    rcases ih with h | ⟨r, a, b, c, d⟩
    ·right
     refine ⟨k, by omega, h1, rfl, ?_⟩
     have htl : (C.line k).train < (C.stepN f k).sta.length := by
      have h3 := (hi.tr k (by omega) (by omega)).1
      have h4 : ∀ j, (C.stepN f j).sta.length = C.sta.length := by
       intro j
       induction j with
       | zero => rfl
       | succ j ihj =>
        show ((C.stepN f j).step f j).sta.length = _
        rcases step_sta (C.stepN f j) f j with e | ⟨-, e, -⟩
        ·rw [e]; exact ihj
        ·rw [e, List.length_set]; exact ihj
      rw [h4, hi.st]; exact h3
     rw [z0p _ _ _ _ _ htl, if_pos rfl, h]
    ·exfalso
     have := hi.one r k (by omega) (by omega) (by omega) (by omega) c
     omega
   ·rw [z0z _ _ _ _ _ e]
    rcases ih with h | ⟨r, a, b⟩
    ·exact .inl h
    ·exact .inr ⟨r, by omega, b⟩
theorem z5h {C : RBx} {f : Fr} (hg : ∀ k, k <= C.waits.length -> Inv { C.grantN f k with waits := C.leftN f k ++ C.waits.drop k }) (t : Nat) : ∀ k, k <= C.waits.length -> (C.grantN f k).sta.getD t 0 = C.sta.getD t 0 + (C.servN f k).count t
 | 0, _ => rfl
 | k + 1, hk => by
  have ih := z5h hg t k (by omega)
  have hi := hg k (by omega)
  show ((C.grantN f k).grant f (C.waits.getD k 0)).sta.getD t 0 = _ + (if _ then _ else _ : List Nat).count t
  by_cases hb : (C.grantN f k).grantB f (C.waits.getD k 0) = true
  case neg =>
   have e : (C.grantN f k).grant f (C.waits.getD k 0) = C.grantN f k := by unfold RBx.grant; rw [if_neg hb]
   rw [e, if_neg hb]; exact ih
  rw [if_pos hb, z5f hb]
  unfold RBx.more
  have hm : C.waits.getD k 0 ∈ C.leftN f k ++ C.waits.drop k := by
   rw [z06 (by omega), List.drop_eq_getElem_cons (by omega)]
   exact List.mem_append_right _ (List.mem_cons_self ..)
  have htl : C.waits.getD k 0 < (C.grantN f k).sta.length := by
   have h1 := (hi.wt _ hm).1
   have h2 : (C.grantN f k).sta.length = (C.grantN f k).L.tns.length := hi.st
   rw [h2]; exact h1
  rw [List.count_append]
  by_cases e : t = C.waits.getD k 0
  ·rw [<- e] at htl ⊢
   rw [z0p _ _ _ _ _ htl, if_pos rfl, ih, List.count_singleton_self]
   omega
  ·have e0 : List.count t [C.waits.getD k 0] = 0 := List.count_eq_zero.2 (fun h => e (List.mem_singleton.1 h))
   rw [z0z _ _ _ _ _ e, ih, e0]
   omega
def srv : List Nat -> List Nat -> List Nat × List Nat
 | [], g => ([], g)
 | x :: q, [] => (x :: (srv q []).1, (srv q []).2)
 | x :: q, y :: g => if y = x then srv q g else (x :: (srv q (y :: g)).1, (srv q (y :: g)).2)
def srv1 (x : Nat) (p : List Nat × List Nat) : List Nat × List Nat := match p.2 with
 | [] => (p.1 ++ [x], [])
 | y :: g => if y = x then (p.1, g) else (p.1 ++ [x], y :: g)
theorem srv_snoc (x : Nat) : ∀ (q g : List Nat), srv (q ++ [x]) g = srv1 x (srv q g)
 | [], [] => rfl
 | [], y :: g => by
  show (if y = x then srv [] g else (x :: (srv [] (y :: g)).1, (srv [] (y :: g)).2)) = (if y = x then ([], g) else ([] ++ [x], y :: g))
  split <;> rfl
 | z :: q, [] => by
  show (z :: (srv (q ++ [x]) []).1, (srv (q ++ [x]) []).2) = _
  rw [srv_snoc x q []]
  show _ = srv1 x (z :: (srv q []).1, (srv q []).2)
  unfold srv1
  generalize srv q [] = p
  obtain ⟨a, b⟩ := p
  cases b with
  | nil => rfl
  | cons y g => simp only; split <;> rfl
 | z :: q, y :: g => by
  show (if y = z then srv (q ++ [x]) g else (z :: (srv (q ++ [x]) (y :: g)).1, (srv (q ++ [x]) (y :: g)).2)) = srv1 x (if y = z then srv q g else (z :: (srv q (y :: g)).1, (srv q (y :: g)).2))
  by_cases e : y = z
  ·rw [if_pos e, if_pos e]; exact srv_snoc x q g
  ·rw [if_neg e, if_neg e, srv_snoc x q (y :: g)]
   unfold srv1
   generalize srv q (y :: g) = p
   obtain ⟨a, b⟩ := p
   cases b with
   | nil => rfl
   | cons y g => simp only; split <;> rfl
theorem srv_grant {C : RBx} {f : Fr} (hn : C.waits.Nodup) : ∀ k, k <= C.waits.length -> ∀ rest : List Nat, (∀ x, x ∈ rest -> x ∉ C.waits.take k) -> srv (C.waits.take k) (C.servN f k ++ rest) = (C.leftN f k, rest)
 | 0, _, rest, _ => rfl
 | k + 1, hk, rest, hr => by
  have et : C.waits.take (k + 1) = C.waits.take k ++ [C.waits.getD k 0] := by rw [z06 (by omega)]; exact List.take_succ_eq_append_getElem (by omega)
  have hk0 : C.waits.getD k 0 ∉ C.waits.take k := by
   intro h
   have hd : (C.waits.take k ++ C.waits.drop k).Nodup := by rw [List.take_append_drop]; exact hn
   have := (List.nodup_append.1 hd).2.2 _ h (C.waits.getD k 0) (by rw [z06 (by omega), List.drop_eq_getElem_cons (by omega)]; exact List.mem_cons_self ..)
   exact this rfl
  have hr' : ∀ x, x ∈ rest -> x ∉ C.waits.take k := fun x hx h => hr x hx (by rw [et]; exact List.mem_append_left _ h)
  rw [et, srv_snoc]
  by_cases hb : (C.grantN f k).grantB f (C.waits.getD k 0) = true
  ·have e1 : C.servN f (k + 1) = C.servN f k ++ [C.waits.getD k 0] := by
    show (if _ then _ else _ : List Nat) = _
    rw [if_pos hb]
   have e2 : C.leftN f (k + 1) = C.leftN f k := by
    show (if _ then _ else _ : List Nat) = _
    rw [if_pos hb]
   rw [e1, e2, List.append_assoc, List.singleton_append, srv_grant hn k (by omega) (C.waits.getD k 0 :: rest) (fun x hx => by
    rcases List.mem_cons.1 hx with rfl | hx
    ·exact hk0
    ·exact hr' x hx)]
   show (if _ = _ then _ else _) = _
   rw [if_pos rfl]
  ·have e1 : C.servN f (k + 1) = C.servN f k := by
    show (if _ then _ else _ : List Nat) = _
    rw [if_neg hb]
   have e2 : C.leftN f (k + 1) = C.leftN f k ++ [C.waits.getD k 0] := by
    show (if _ then _ else _ : List Nat) = _
    rw [if_neg hb]
   rw [e1, e2, srv_grant hn k (by omega) rest hr']
   cases rest with
   | nil => rfl
   | cons y g =>
    show (if y = C.waits.getD k 0 then _ else _) = _
    rw [if_neg (fun e => hr y (List.mem_cons_self ..) (by rw [et, e]; exact List.mem_append_right _ (List.mem_singleton.2 rfl)))]
theorem given_line {C : RBx} {f : Fr} (hg : ∀ k, k <= C.waits.length -> Inv { C.grantN f k with waits := C.leftN f k ++ C.waits.drop k }) : ∀ k, k <= C.waits.length -> ∀ t, t ∈ C.servN f k -> ∃ r, r < C.L.rts.length /\ (C.grantN f k).line r = RLnW t /\ ∀ x, x ∈ secs (C.L.rt r).path -> f.occ.getD x false = false
 | 0, _, t, ht => by simp [RBx.servN] at ht
 | k + 1, hk, t, ht => by
  have hi := hg k (by omega)
  have hGL := grantN_L C f k
  have hm : C.waits.getD k 0 ∈ C.leftN f k ++ C.waits.drop k := by
   rw [z06 (by omega), List.drop_eq_getElem_cons (by omega)]
   exact List.mem_append_right _ (List.mem_cons_self ..)
  obtain ⟨hta, htb⟩ := hi.wt _ hm
  show ∃ r, _ /\ ((C.grantN f k).grant f (C.waits.getD k 0)).line r = _ /\ _
  unfold RBx.servN at ht
  by_cases hb : (C.grantN f k).grantB f (C.waits.getD k 0) = true
  case neg =>
   rw [if_neg hb] at ht
   have e : (C.grantN f k).grant f (C.waits.getD k 0) = C.grantN f k := by unfold RBx.grant; rw [if_neg hb]
   rw [e]
   exact given_line hg k (by omega) t ht
  rw [if_pos hb] at ht
  have hfree := z5g hb
  have hn : (C.grantN f k).nxt (C.waits.getD k 0) < (C.grantN f k).L.rts.length := by
   have hm2 : (C.grantN f k).L.tn (C.waits.getD k 0) ∈ (C.grantN f k).L.tns := by unfold Lay.tn; rw [z06 hta]; exact List.getElem_mem hta
   refine hi.lay.good.jnys _ hm2 _ ?_
   unfold RBx.nxt
   rw [z06 htb]
   exact List.getElem_mem htb
  have hsw : ∀ r, r < (C.grantN f k).L.rts.length -> ∀ x, x ∈ secs ((C.grantN f k).L.rt r).path -> x < (C.grantN f k).L.sw.length := by
   intro r hr x hx
   have hro : RtOK (C.grantN f k).L ((C.grantN f k).L.rt r) := hi.rt (r := r) hr
   obtain ⟨y, hy, e⟩ := List.mem_map.1 (show x ∈ ((C.grantN f k).L.rt r).path.map (·.1) from hx)
   rw [<- e]; exact (hro.ps y hy).1
  rcases List.mem_append.1 ht with ht | ht
  ·obtain ⟨r, h1, h2, h3⟩ := given_line hg k (by omega) t ht
   refine ⟨r, h1, ?_, h3⟩
   rcases z3f (C.grantN f k) f (C.waits.getD k 0) r with e | ⟨e, -, -⟩
   ·rw [e]; exact h2
   ·exfalso
    rw [<- e] at hfree hn
    have hro : RtOK (C.grantN f k).L ((C.grantN f k).L.rt r) := hi.rt (r := r) hn
    obtain ⟨y, hy⟩ : ∃ y, y ∈ ((C.grantN f k).L.rt r).path := by
     cases hp : ((C.grantN f k).L.rt r).path with
     | nil => exact absurd hp hro.ne
     | cons y l => exact ⟨y, List.mem_cons_self ..⟩
    have hx : y.1 ∈ secs ((C.grantN f k).L.rt r).path := List.mem_map_of_mem hy
    have hno := locked_none (free_path hfree (hsw r hn _ hx) hx).1 r
    have hlk : (C.grantN f k).lockB y.1 r = true := by
     unfold RBx.lockB
     rw [h2]
     simp only [RLnW, List.drop_zero, Bool.and_eq_true, List.contains_iff_mem]
     exact ⟨rfl, hx⟩
    rw [hlk] at hno
    cases hno
  ·obtain rfl := List.mem_singleton.1 ht
   refine ⟨(C.grantN f k).nxt (C.waits.getD k 0), by rw [<- hGL]; exact hn, ?_, fun x hx => ?_⟩
   ·unfold RBx.grant
    rw [if_pos hb]
    unfold RBx.line
    have h2 : (C.grantN f k).lines.length = (C.grantN f k).L.rts.length := hi.ll
    rw [z4m, z0p _ _ _ _ _ (by rw [h2]; exact hn), if_pos rfl]
   ·rw [<- hGL] at hx
    exact (free_path hfree (hsw _ hn x hx) hx).2
def cntG (g : ByteArray) (k : Nat) : Nat := ((List.range g.size).filter (fun i => pk g i == 49 + k)).length
theorem cnt_list (l : List Nat) (t : Nat) : ((List.range l.length).filter (fun i => l.getD i 0 == t)).length = l.count t := by
 rw [<- List.countP_eq_length_filter]
 have e : (List.range l.length).map (fun i => l.getD i 0) = l := by
  apply List.ext_getElem
  ·simp
  ·intro i h1 h2
   rw [List.getElem_map, List.getElem_range, z06 h2]
 have e2 : l.count t = ((List.range l.length).map (fun i => l.getD i 0)).count t := by rw [e]
 rw [e2, List.count_eq_countP, List.countP_map]
 rfl
theorem serv_nodup {C : RBx} {f : Fr} (hn : C.waits.Nodup) : ∀ k, k <= C.waits.length -> (C.servN f k).Nodup
 | 0, _ => List.nodup_nil
 | k + 1, hk => by
  unfold RBx.servN
  split
  ·rw [List.nodup_append]
   refine ⟨serv_nodup hn k (by omega), by simp, fun a ha b hb => ?_⟩
   obtain rfl := List.mem_singleton.1 hb
   intro e
   have ht := serv_take C f k (by omega) a ha
   have hd : (C.waits.take k ++ C.waits.drop k).Nodup := by rw [List.take_append_drop]; exact hn
   exact (List.nodup_append.1 hd).2.2 a ht (C.waits.getD k 0) (by rw [z06 (by omega), List.drop_eq_getElem_cons (by omega)]; exact List.mem_cons_self ..) e
  ·exact serv_nodup hn k (by omega)
theorem gr_pk {C : RBx} {s : ByteArray} (S : Stgs C (C.L.frOf s)) (i : Nat) (hi : i < (grS C s).size) : (grS C s).size = ((C.s3 (C.L.frOf s)).servN (C.L.frOf s) (C.s3 (C.L.frOf s)).waits.length).length ∧
  pk (grS C s) i = 49 + ((C.s3 (C.L.frOf s)).servN (C.L.frOf s) (C.s3 (C.L.frOf s)).waits.length).getD i 0 := by
 have hgs : (grS C s).size = ((C.s3 (C.L.frOf s)).servN (C.L.frOf s) (C.s3 (C.L.frOf s)).waits.length).length := by
  unfold grS; rw [z0q, List.length_map]
 refine ⟨hgs, ?_⟩
 have htn := S.i4.lay.good.tns
 rw [S.l4] at htn
 rw [hgs] at hi
 unfold grS
 rw [z26 (fun y hy => by
  obtain ⟨u, hu, rfl⟩ := List.mem_map.1 hy
  have := (S.i3.wt u (S.sv u hu)).1
  rw [S.l3] at this
  omega)]
 rw [z06 (by simpa using hi), z06 hi, List.getElem_map]
theorem gr_cnt {C : RBx} {s : ByteArray} (S : Stgs C (C.L.frOf s)) (t : Nat) : cntG (grS C s) t = ((C.s3 (C.L.frOf s)).servN (C.L.frOf s) (C.s3 (C.L.frOf s)).waits.length).count t := by
 rw [<- cnt_list]
 unfold cntG
 have hgs : (grS C s).size = ((C.s3 (C.L.frOf s)).servN (C.L.frOf s) (C.s3 (C.L.frOf s)).waits.length).length := by
  unfold grS; rw [z0q, List.length_map]
 rw [<- hgs]
 congr 1
 refine List.filter_congr (fun i hi => ?_)
 rw [(gr_pk S i (List.mem_range.1 hi)).2]
 generalize ((C.s3 (C.L.frOf s)).servN (C.L.frOf s) (C.s3 (C.L.frOf s)).waits.length).getD i 0 = y
 have : ((49 + y == 49 + t) = true) ↔ ((y == t) = true) := by
  rw [beq_iff_eq, beq_iff_eq]; omega
 exact Bool.eq_iff_iff.2 this
theorem counted_facts {C : RBx} {s : ByteArray} (S : Stgs C (C.L.frOf s)) (hi : Inv C) (hP : PhOK C) (hJn : JnOK C) {t : Nat} (ht : t < C.L.tns.length) :
  cntG (grS C s) t <= 1 /\ 48 + cntG (grS C s) t <= pk (atS (C.s4 (C.L.frOf s))) t ∧
  (pk (atS (C.s4 (C.L.frOf s))) t = pk (atS C) t + cntG (grS C s) t ∨
   (pk (atS (C.s4 (C.L.frOf s))) t + 1 = pk (atS C) t + cntG (grS C s) t /\ (C.L.tn t).jny.getD (pk (atS (C.s4 (C.L.frOf s))) t - cntG (grS C s) t - 48) 0 < C.L.rts.length /\ pk (phS C) ((C.L.tn t).jny.getD (pk (atS (C.s4 (C.L.frOf s))) t - cntG (grS C s) t - 48) 0) = 100)) := by
 have e0 := at_pk hi ht
 have e4 := at_pk S.i4 (t := t) (by rw [S.l4]; exact ht)
 have hc := gr_cnt S t
 have h4 := z5h S.g t (C.s3 (C.L.frOf s)).waits.length (Nat.le_refl _)
 have h4' : (C.s4 (C.L.frOf s)).sta.getD t 0 = (C.s3 (C.L.frOf s)).sta.getD t 0 + cntG (grS C s) t := by rw [hc]; exact h4
 have h3 : (C.s3 (C.L.frOf s)).sta = (C.s2 (C.L.frOf s)).sta := (z38 (C.s2 (C.L.frOf s)) (C.L.frOf s) _).2.2.2
 have h1s : (C.s1 (C.L.frOf s)).sta = C.sta := (z0w C (C.L.frOf s) C.L.sw.length).2.2.2.1
 have h1l : ∀ r, (C.s1 (C.L.frOf s)).line r = C.line r := fun r => by unfold RBx.line; exact congrArg (fun l => l.getD r RLn0) (z0w C (C.L.frOf s) C.L.sw.length).2.2.1
 have hle : cntG (grS C s) t <= 1 := by
  rw [hc]
  exact List.nodup_iff_count.1 (serv_nodup S.i3.wn _ (Nat.le_refl _)) t
 rw [h3] at h4'
 refine ⟨hle, by omega, ?_⟩
 have h2 := stepN_sta S.i1 (C.L.frOf s) t C.L.rts.length (by rw [S.l1]; exact Nat.le_refl _)
 rw [<- S.n2, h1s] at h2
 rcases h2 with h | ⟨r, hr, a, b, c⟩
 ·left; omega
 ·right
  rw [h1l] at a b
  have hj := hJn r (by omega)
  have htr := (hi.tr r hr (by omega)).2
  rw [b] at hj htr
  have e : pk (atS (C.s4 (C.L.frOf s))) t - cntG (grS C s) t - 48 = C.sta.getD t 0 - 1 := by omega
  rw [e, hj]
  refine ⟨by omega, hr, ?_⟩
  rw [Inv.ph256 hP.small r (by rw [hi.ll]; exact hr)]
  exact a
theorem given_facts {C : RBx} {s : ByteArray} (S : Stgs C (C.L.frOf s)) (hJ : KJ (C.s4 (C.L.frOf s))) (hJn : JnOK (C.s4 (C.L.frOf s))) (hf : C.L.frameB s = true) {i : Nat} (hi : i < (grS C s).size) :
  49 <= pk (grS C s) i /\ pk (grS C s) i < 49 + C.L.tns.length /\ 49 <= pk (atS (C.s4 (C.L.frOf s))) (pk (grS C s) i - 49) ∧
  ∃ r, r < C.L.rts.length /\ r = (C.L.tn (pk (grS C s) i - 49)).jny.getD (pk (atS (C.s4 (C.L.frOf s))) (pk (grS C s) i - 49) - 49) 0 /\ pk (atS (C.s4 (C.L.frOf s))) (pk (grS C s) i - 49) - 49 < (C.L.tn (pk (grS C s) i - 49)).jny.length ∧
   allP (secs (C.L.rt r).path) (fun x => pk (lkS (C.s4 (C.L.frOf s))) x == 65 + r) = true /\ allP (secs (C.L.rt r).path) (fun x => pk s x == 48) = true /\ pk (phS (C.s4 (C.L.frOf s))) r = 119 := by
 have hg := (z2t C.L s).1 hf
 obtain ⟨hgs, hgp⟩ := gr_pk S i hi
 rw [hgs] at hi
 rw [z06 hi] at hgp
 have hmem := List.getElem_mem hi
 have htl : ((C.s3 (C.L.frOf s)).servN (C.L.frOf s) (C.s3 (C.L.frOf s)).waits.length)[i] < C.L.tns.length := by have := (S.i3.wt _ (S.sv _ hmem)).1; rw [S.l3] at this; exact this
 obtain ⟨r, hr, hl, ho⟩ := given_line S.g _ (Nat.le_refl _) _ hmem
 rw [S.l3] at hr ho
 obtain ⟨t, ht⟩ : ∃ t, t = ((C.s3 (C.L.frOf s)).servN (C.L.frOf s) (C.s3 (C.L.frOf s)).waits.length)[i] := ⟨_, rfl⟩
 rw [<- ht] at hgp htl hl
 have hl4 : (C.s4 (C.L.frOf s)).line r = RLnW t := hl
 have h119 : ((C.s4 (C.L.frOf s)).line r).ph = 119 := by rw [hl4]; rfl
 have htr : ((C.s4 (C.L.frOf s)).line r).train = t := by rw [hl4]; rfl
 have hj := hJn r (by omega)
 have h1 := (S.i4.tr r (by rw [S.l4]; exact hr) (by omega)).2
 have hsj := S.i4.sj t
 rw [htr] at hj h1
 rw [S.l4] at hj hsj
 have e49 : pk (grS C s) i - 49 = t := by omega
 rw [e49, at_pk S.i4 (by rw [S.l4]; exact htl)]
 have hro : RtOK C.L (C.L.rt r) := by have := S.i4.rt (r := r) (by rw [S.l4]; exact hr); rw [S.l4] at this; exact this
 have hps : ∀ x, x ∈ secs (C.L.rt r).path -> x < C.L.sw.length := by
  intro x hx
  obtain ⟨y, hy, e⟩ := List.mem_map.1 (show x ∈ (C.L.rt r).path.map (·.1) from hx)
  rw [<- e]; exact (hro.ps y hy).1
 have e1 : 48 + (C.s4 (C.L.frOf s)).sta.getD t 0 - 49 = (C.s4 (C.L.frOf s)).sta.getD t 0 - 1 := by omega
 rw [e1]
 refine ⟨by omega, by omega, by omega, r, hr, hj.symm, by omega, ?_, ?_, ?_⟩
 ·unfold allP
  rw [List.all_eq_true]
  intro x hx
  have hw := whole_of S.i4 hJ.ki.lk (r := r) (by rw [S.l4]; exact hr) (by omega) (by omega) (s := x) (by rw [S.l4]; exact hx)
  rw [lock_pk S.i4 (by rw [S.l4]; exact hps x hx), hw]
  simp [lockC]
 ·unfold allP
  rw [List.all_eq_true]
  intro x hx
  have h48 := (occ_byte hg (hps x hx)).1 (ho x hx)
  simpa using h48
 ·rw [Inv.ph256 hJ.ph.small r (by rw [S.i4.ll, S.l4]; exact hr)]
  exact h119
theorem cntG_succ {g : ByteArray} {k i : Nat} : ((List.range (i + 1)).filter (fun j => pk g j == 49 + k)).length = ((List.range i).filter (fun j => pk g j == 49 + k)).length + (if pk g i = 49 + k then 1 else 0) := by
 rw [List.range_succ, List.filter_append, List.length_append]
 congr 1
 by_cases e : pk g i = 49 + k
 ·simp [e]
 ·simp [e]
set_option maxRecDepth 100000 in
set_option maxHeartbeats 4000000 in
theorem z4y (gh : Nat) (t0 t1 t2 t3 : ByteArray) (k : Nat) (w : World) (hh : w.heap[gh]? = some (z4s t0 t1 t2 t3)) (hs : t3.size <= 1000) (hk : k <= 100) :
  Calls Tryz.prog 20 #[.pointer (some ⟨gh, 0, none⟩), .int .i64 k] w fun e w' => e = .returned (.int .i64 (cntG t3 k : Nat)) /\ w' = w := by
 obtain ⟨⟨-, -, -, y3⟩, hgh⟩ := z1i hh
 clear hh
 obtain ⟨Z, hZ⟩ : ∃ Z, Z = cntG t3 k := ⟨_, rfl⟩
 rw [<- hZ]
 have HZ := zh hZ
 clear hZ
 go_enter Tryz.func20, Tryz.ntmps20
 go_wp2
 go_loop [5, 6] (fun n i => ∃ j c : Nat, j <= t3.size /\ i = .int .i64 j /\ n = .int .i64 c /\ c <= j /\ c = ((List.range j).filter (fun i => pk t3 i == 49 + k)).length) (fun _ i => t3.size - (intOf i).toNat)
 case atStart => exact ⟨0, 0, Nat.zero_le _, rfl, rfl, Nat.le_refl _, rfl⟩
 case round =>
  obtain ⟨j, c, hj, rfl, rfl, hcj, hc⟩ := hrel
  have HC := zh hc
  clear hc
  by_cases hlt : j < t3.size
  ·have HS := zh (cntG_succ (g := t3) (k := k) (i := j))
   obtain ⟨u, hu⟩ : ∃ u, (t3[j]'hlt).toNat = u := ⟨_, rfl⟩
   have hu' : pk t3 j = u := (z0j t3 j hlt).symm.trans hu
   rw [hu'] at HS
   have hu256 : u < 256 := by rw [<- hu]; exact (t3[j]'hlt).toNat_lt
   have ei : IntKind.i64.wrap (u : Int) = u := Go.IntWalk.i64_in _ (by omega)
   have l1 : (j : Int) < t3.size := by omega
   clear hu'
   by_cases e : u = 49 + k
   ·have eu : (u : Int) - 49 = k := by omega
    rw [if_pos e] at HS
    clear e
    go_wp2
    exact ⟨⟨j + 1, c + 1, by omega, by go_num, by go_num, by omega, by rw [uh HS, <- uh HC]⟩, by simp [intOf]; omega⟩
   ·have eb : ((u : Int) - 49 == (k : Int)) = false := by simp; omega
    rw [if_neg e] at HS
    clear e
    go_wp2
    exact ⟨⟨j + 1, c, by omega, by go_num, rfl, by omega, by rw [uh HS, <- uh HC]; rfl⟩, by simp [intOf]; omega⟩
  ·have l1 : ¬ (j : Int) < t3.size := by omega
   have hcz : c = Z := by
    rw [uh HC, uh HZ]
    unfold cntG
    have : j = t3.size := by omega
    rw [this]
   subst hcz
   go_wp2
   go_ret
   exact ⟨rfl, rfl⟩
set_option maxRecDepth 100000 in
set_option maxHeartbeats 8000000 in
theorem kgiven_yes (g : Nat) (L : Lay) (s : ByteArray) (gh gt : Nat) (t0 t1 t2 t3 a0 a1 a2 a3 a4 : ByteArray) (w : World) (h : KPl w g L) (hh : w.heap[gh]? = some (z4s t0 t1 t2 t3)) (ha : w.heap[gt]? = some (toldO a0 a1 a2 a3 a4))
  (hA : AskOK L a0 a1 a2 a3 a4) (hs3 : t3.size <= 1000) (hps : ∀ r x, r < L.rts.length -> x ∈ secs (L.rt r).path -> x < L.sw.length) (hsz : L.sw.length <= s.size)
  (hf : ∀ i, i < t3.size -> 49 <= pk t3 i /\ pk t3 i < 49 + L.tns.length /\ 49 <= pk a3 (pk t3 i - 49) ∧
   ∃ r, r < L.rts.length /\ r = (L.tn (pk t3 i - 49)).jny.getD (pk a3 (pk t3 i - 49) - 49) 0 /\ pk a3 (pk t3 i - 49) - 49 < (L.tn (pk t3 i - 49)).jny.length ∧
    allP (secs (L.rt r).path) (fun x => pk a0 x == 65 + r) = true /\ allP (secs (L.rt r).path) (fun x => pk s x == 48) = true /\ pk a1 r = 119) :
  Calls Tryz.prog 18 #[.pointer (some ⟨g, 0, none⟩), .string s, .pointer (some ⟨gh, 0, none⟩), .pointer (some ⟨gt, 0, none⟩)] w fun e w' => e = .returned (.bool true) /\ w' = w := by
 have HW := zh (fun (r : Nat) (hr : r < L.rts.length) => kwhole_any g L r a0 w h hr hA.rt (fun x hx => by rw [hA.s0]; exact hps r x hr hx))
 have HE := zh (fun (r : Nat) (hr : r < L.rts.length) => kempty_any g L r s w h hr (fun x hx => by have := hps r x hr hx; omega))
 obtain ⟨vh, vp, vf, va, vk, vw, vs, vj, e, -, -, -, -, -, -, -, a8⟩ := h
 obtain ⟨⟨-, -, -, -, -, -, -, -, -, -, c10⟩, hg⟩ := z0n e
 obtain ⟨⟨-, -, -, y3⟩, hgh⟩ := z1i hh
 obtain ⟨⟨z0, z1, -, z3, -⟩, -, hgt⟩ := z0m ha
 have HJ := zh (fun (t : Nat) (ht : t < L.tns.length) => z3h a8 t (by simpa using ht))
 have HF := zh hf
 have s1 := hA.s1
 have s3 := hA.s3
 have htn := hA.tn
 have hrt := hA.rt
 clear e a8 hf hh ha hA hps hsz
 go_enter Tryz.func18, Tryz.ntmps18
 go_wp2
 go_loopw [9] (fun i wr => ∃ k : Nat, k <= t3.size /\ i = .int .i64 k /\ wr = w) (fun i _ => t3.size - (intOf i).toNat)
 case atStart => exact ⟨0, Nat.zero_le _, rfl, rfl⟩
 case round =>
  obtain ⟨k, hk, rfl, hwr⟩ := hrel
  subst hwr
  by_cases hlt : k < t3.size
  ·obtain ⟨b1, b2, b3, r, hr, hre, hjl, q0, q1, q2⟩ := uh HF k hlt
   obtain ⟨u, hu⟩ : ∃ u, (t3[k]'hlt).toNat = u := ⟨_, rfl⟩
   have hu' : pk t3 k = u := (z0j t3 k hlt).symm.trans hu
   rw [hu'] at b1 b2 b3 hre hjl
   have hu256 : u < 256 := by rw [<- hu]; exact (t3[k]'hlt).toNat_lt
   obtain ⟨t, ht⟩ : ∃ t, t = u - 49 := ⟨_, rfl⟩
   rw [<- ht] at b3 hre hjl
   have htl : t < L.tns.length := by omega
   have eu : (u : Int) - 49 = t := by omega
   have ei : IntKind.i64.wrap (u : Int) = u := Go.IntWalk.i64_in _ (by omega)
   have hta : t < a3.size := by omega
   obtain ⟨a, haa⟩ : ∃ a, (a3[t]'hta).toNat = a := ⟨_, rfl⟩
   have ha' : pk a3 t = a := (z0j a3 t hta).symm.trans haa
   rw [ha'] at b3 hre hjl
   have ha256 : a < 256 := by rw [<- haa]; exact (a3[t]'hta).toNat_lt
   have ea : IntKind.i64.wrap (a : Int) = a := Go.IntWalk.i64_in _ (by omega)
   obtain ⟨n, hn⟩ : ∃ n, n = a - 48 := ⟨_, rfl⟩
   have en : (a : Int) - 48 = n := by omega
   obtain ⟨n1, hn1⟩ : ∃ n1, n1 = a - 49 := ⟨_, rfl⟩
   have en1 : (n : Int) - 1 = n1 := by omega
   rw [<- hn1] at hre hjl
   obtain ⟨gj, oj, cj, ar, cr, ev, hgj, xr, hui⟩ := uh HJ t htl
   subst ev
   rw [tns_jny htl] at xr hui
   rw [List.length_map] at c10
   obtain ⟨ar', cr', hv, hm, hrow⟩ := z3i hui
   simp only [Value.slice.injEq] at hv
   obtain ⟨rfl, -, rfl⟩ := hv
   obtain ⟨gq, oq, rfl, hgq, xq⟩ := hrow n1 hjl
   rw [z06 hjl] at hre
   rw [<- hre] at xq
   have HW1 := zh (uh HW r hr)
   have HE1 := zh (uh HE r hr)
   rw [q0] at HW1
   rw [q1] at HE1
   have hra : r < a1.size := by omega
   obtain ⟨y, hy⟩ : ∃ y, (a1[r]'hra).toNat = y := ⟨_, rfl⟩
   have hy' : y = 119 := by rw [<- q2, <- hy]; exact z0j a1 r hra
   subst hy'
   obtain ⟨nt, hnt⟩ : ∃ n, n = L.tns.length := ⟨_, rfl⟩
   rw [<- hnt] at c10
   obtain ⟨nl, hnl⟩ : ∃ n, n = (L.tn t).jny.length := ⟨_, rfl⟩
   rw [<- hnl] at xr hjl
   have l1 : (k : Int) < t3.size := by omega
   have l2 : (t : Int) < a3.size := by omega
   have l3 : (t : Int) < nt := by omega
   have l4 : (0 : Int) <= t := by omega
   have l5 : t <= 100 := by omega
   have l6 : (n1 : Int) < nl := by omega
   have l7 : n <= 256 := by omega
   have l8 : n1 <= 256 := by omega
   have l9 : (r : Int) < a1.size := by omega
   have l10 : ¬ (n : Int) < 1 := by omega
   have l11 : ¬ n < 1 := by omega
   have l12 : decide (n < 1) = false := by simp; omega
   have l13 : (0 : Int) <= n1 := by omega
   have l14 : (0 : Int) <= r := by omega
   clear hu' ha' ht hn hn1 hnt hnl hre hrow hui q0 q1 q2 b3
   go_wp2_with fail
   refine (uh HW1).mono ?_
   rintro e w2 ⟨rfl, rfl⟩
   go_wp2_with fail
   refine (uh HE1).mono ?_
   rintro e w3 ⟨rfl, rfl⟩
   go_wp2
   exact ⟨⟨k + 1, by omega, by go_num, trivial⟩, by simp [intOf]; omega⟩
  ·have l1 : ¬ (k : Int) < t3.size := by omega
   go_wp2
   go_ret
   exact ⟨rfl, rfl⟩
end Go.Proofs.YtkbpocecbcaiiabGreatDoor
