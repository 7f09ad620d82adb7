import Derived.Test.YtkbpocecbcaiiaaGreatDoorH45
import Derived.Test.YtkbpocecbcaiiaaGreatDoorH39
namespace Go.Proofs.YtkbpocecbcaiiaaGreatDoor
open Go.RowKit
theorem getD_atq {α : Type} {l : List α} {i : Nat} {d : α} (h : i < l.length) : l.getD i d = l[i] := by
 rw [List.getD_eq_getElem?_getD, List.getElem?_eq_getElem h]; rfl
theorem timesZ_pos (l : List Nat) (t : Nat) : 0 < timesZ l t ↔ l.contains t = true := by
 unfold timesZ
 rw [List.contains_iff_mem]
 constructor
 . intro h
  have h' : 0 < (l.filter (fun y : Nat => ((y : Int) == (t : Int)))).length := by omega
  obtain ⟨x, hx⟩ := List.length_pos_iff_exists_mem.1 h'
  rw [List.mem_filter] at hx
  have : x = t := by
   have h2 := hx.2
   rw [beq_iff_eq] at h2
   omega
  exact this ▸ hx.1
 . intro h
  have : t ∈ l.filter (fun y : Nat => ((y : Int) == (t : Int))) := by
   rw [List.mem_filter]
   exact ⟨h, by simp⟩
  have := List.length_pos_of_mem this
  omega
theorem Sim.next {B : PBx} {C : RBx} (h : Sim B C) (hi : Inv C) {t : Nat} (ht : t < C.L.tns.length) : B.nextR t = (C.L.tn t).jny[C.sta.getD t 0]? := by
 unfold PBx.nextR
 rw [h.L, h.sta, if_pos ⟨ht, by rw [hi.st]; exact ht⟩]
theorem Sim.askA {B : PBx} {C : RBx} (h : Sim B C) (hi : Inv C) {t : Nat} (ht : t < C.L.tns.length) : B.askA t = C.askA t := by
 unfold PBx.askA RBx.askA
 rw [h.next hi ht, h.waits, h.L]
 have hsj := hi.sj t
 by_cases e : C.sta.getD t 0 = (C.L.tn t).jny.length
 . rw [if_pos e, List.getElem?_eq_none (by omega)]
  rfl
 . rw [if_neg e, List.getElem?_eq_getElem (by omega)]
  simp only [Option.isSome_some, if_true]
  by_cases e1 : C.waits.contains t = true
  . rw [if_pos e1, if_pos ((timesZ_pos _ _).2 e1)]
  . rw [if_neg e1, if_neg (fun hh => e1 ((timesZ_pos _ _).1 hh))]
   have := hi.wq
   by_cases e2 : C.waits.length = C.L.Q
   . rw [if_pos e2, if_pos (by omega)]
   . rw [if_neg e2, if_neg (by omega)]
theorem Sim.ask {B : PBx} {C : RBx} (h : Sim B C) (hi : Inv C) {t : Nat} (ht : t < C.L.tns.length) : Sim (B.ask t) (C.ask t) /\ Inv (C.ask t) := by
 unfold PBx.ask RBx.ask
 rw [h.askA hi ht]
 by_cases e : C.askA t = 113
 . rw [if_pos e, if_pos e]
  have hsj := hi.sj t
  have h1 : C.sta.getD t 0 ≠ (C.L.tn t).jny.length /\ C.waits.contains t = false /\ C.waits.length ≠ C.L.Q := by
   unfold RBx.askA at e
   by_cases e1 : C.sta.getD t 0 = (C.L.tn t).jny.length
   . rw [if_pos e1] at e; simp at e
   . rw [if_neg e1] at e
    by_cases e2 : 0 < timesZ C.waits t
    . rw [if_pos e2] at e; simp at e
    . rw [if_neg e2] at e
     by_cases e3 : C.waits.length = C.L.Q
     . rw [if_pos e3] at e; simp at e
     . refine ⟨e1, ?_, e3⟩
      cases hc : C.waits.contains t with
      | false => rfl
      | true => exact absurd ((timesZ_pos _ _).2 hc) e2
  obtain ⟨h1, h2, h3⟩ := h1
  have hnm : t ∉ C.waits := by
   intro hm
   rw [List.contains_iff_mem.2 hm] at h2; simp at h2
  refine ⟨⟨h.L, h.rl, h.lr, h.sl, h.sw, h.lt, h.sta, by show B.waits ++ [t] = C.waits ++ [t]; rw [h.waits]⟩, ⟨hi.lay, hi.ll, hi.wl, hi.fl, hi.dl, hi.st, hi.sj, hi.late, hi.li, hi.tr, hi.one, ?_, ?_, ?_⟩⟩
  . show (C.waits ++ [t]).length <= C.L.Q
   have := hi.wq
   simp only [List.length_append, List.length_cons, List.length_nil]
   omega
  . show (C.waits ++ [t]).Nodup
   rw [List.nodup_append]
   refine ⟨hi.wn, by simp, ?_⟩
   intro a ha b hb
   rw [List.mem_singleton] at hb
   subst hb
   intro e; subst e; exact hnm ha
  . intro t' ht'
   have : t' ∈ C.waits ++ [t] := ht'
   rcases List.mem_append.1 this with hm | hm
   . exact hi.wt t' hm
   . rw [List.mem_singleton] at hm
    subst hm
    exact ⟨ht, by show C.sta.getD t' 0 < (C.L.tn t').jny.length; omega⟩
 . rw [if_neg e, if_neg e]
  exact ⟨h, hi⟩
theorem Sim.canc {B : PBx} {C : RBx} (h : Sim B C) {r : Nat} (hr : r < C.L.rts.length) : B.cancB r = C.canc r := by
 unfold PBx.cancB RBx.canc PRt.mayB
 have : decide (r < B.rts.length) = true := by rw [h.rl]; simpa using hr
 rw [this, (h.lr r hr).ph, Bool.true_and]
theorem Sim.cancel {B : PBx} {C : RBx} {pf : PFr} {f : Fr} (h : Sim B C) (hi : Inv C) (hf : FrS pf f C.L) {r : Nat} (hr : r < C.L.rts.length) : Sim (B.cancel pf r) (C.cancel f r) /\ Inv (C.cancel f r) := by
 unfold PBx.cancel RBx.cancel
 rw [h.canc hr]
 by_cases e : C.canc r = true
 . rw [if_pos e, if_pos e]
  have hl := h.lr r hr
  have hli := hi.li r hr
  have hD := hi.lay.D
  have hph : (C.line r).ph = 119 \/ (C.line r).ph = 103 \/ (C.line r).ph = 102 := by
   unfold RBx.canc at e
   simp only [Bool.or_eq_true, beq_iff_eq] at e
   omega
  have hne : (C.line r).ph ≠ 46 := by omega
  have g0 := hli.g0 (by omega)
  have hcb : (if (C.line r).been && f.occ.getD (C.L.rt r).foot false then C.L.D else 0) <= 1000 := by split <;> omega
  have hct : (if (B.route r).been && pf.occ.getD (B.route r).rt.foot false then B.L.D else 0) = (if (C.line r).been && f.occ.getD (C.L.rt r).foot false then C.L.D else 0) := by
   rw [hl.be hne, hf.occ, hl.rt, h.L]
  refine ⟨h.put hi hr ⟨hl.rt, rfl, fun _ => hl.tr hne, fun _ => hl.be hne, fun _ => hl.fr hne, fun _ => hl.ml hne, fun hh => by simp at hh, fun _ => hct, ?_, hl.fb, hl.mb⟩, hi.put hr ⟨fun _ => g0, fun hh => by simp at hh, hcb⟩ (fun _ => ⟨hne, rfl⟩)⟩
  show (if (B.route r).been && pf.occ.getD (B.route r).rt.foot false then B.L.D else 0) <= 1000
  rw [hct]; exact hcb
 . rw [if_neg e, if_neg e]
  exact ⟨h, hi⟩
theorem numF_ltq {x c n : Nat} (h : (numF x c n).isSome = true) : c <= x /\ x - c < n := by
 unfold numF at h
 by_cases e : c <= x /\ x < c + n
 . omega
 . rw [if_neg e] at h; simp at h
theorem Sim.do1 {B : PBx} {C : RBx} {pf : PFr} {f : Fr} (h : Sim B C) (hi : Inv C) (hf : FrS pf f C.L) {c x : Nat} (hc : C.L.cmdB c x = true) :
  Sim (B.do1 pf (c, x - cbase c)) (C.doC f c x) /\ Inv (C.doC f c x) /\ B.doA (c, x - cbase c) = C.doA c x := by
 unfold Lay.cmdB at hc
 unfold PBx.do1 PBx.doA RBx.doC RBx.doA
 simp only
 by_cases h1 : c = 114
 . subst h1
  rw [if_pos rfl] at hc
  have ht := (numF_ltq hc).2
  have e0 : cbase 114 = 49 := rfl
  rw [e0, if_pos rfl, if_pos rfl, if_pos rfl, if_pos rfl]
  exact ⟨(h.ask hi ht).1, (h.ask hi ht).2, h.askA hi ht⟩
 rw [if_neg h1] at hc
 by_cases h2 : c = 99
 . subst h2
  rw [if_pos rfl] at hc
  have ht := (numF_ltq hc).2
  have e0 : cbase 99 = 65 := rfl
  rw [e0]
  simp only [if_neg h1, if_true]
  exact ⟨(h.cancel hi hf ht).1, (h.cancel hi hf ht).2, by rw [h.canc ht]⟩
 rw [if_neg h2] at hc
 by_cases h3 : c = 109
 . subst h3
  rw [if_pos rfl] at hc
  have e0 : cbase 109 = 97 := rfl
  rw [e0]
  simp only [if_neg h1, if_neg h2, if_true]
  have hs : x - 97 < C.L.sw.length /\ C.L.sw.getD (x - 97) false = true := by
   unfold numF at hc
   by_cases e : 97 <= x /\ x < 97 + C.L.sw.length
   . rw [if_pos e] at hc
    exact ⟨by omega, hc⟩
   . rw [if_neg e] at hc; simp at hc
  obtain ⟨w1, w2, w3⟩ := h.sw _ hs.1 hs.2
  have hfl : x - 97 < C.failed.length := by rw [hi.fl]; exact hs.1
  have hsl : x - 97 < B.sws.length := by rw [h.sl]; exact hs.1
  unfold PBx.mend
  rw [w2]
  by_cases e : C.failed.getD (x - 97) false = true
  . rw [if_pos e, if_pos e, if_pos e]
   refine ⟨⟨h.L, h.rl, h.lr, (by show (B.sws.set _ _).length = _; rw [List.length_set]; exact h.sl), ?_, ?_, h.sta, h.waits⟩, ⟨hi.lay, hi.ll, hi.wl, (by show (C.failed.set _ _).length = _; rw [List.length_set]; exact hi.fl), hi.dl, hi.st, hi.sj, hi.late, hi.li, hi.tr, hi.one, hi.wq, hi.wn, hi.wt⟩, rfl⟩
   . intro s hs1 hs2
    show _ /\ _ = (C.failed.set (x - 97) false).getD s false /\ _
    rw [sw_putq B _ _ _ hsl, getD_setq _ _ _ _ _ hfl]
    by_cases e2 : s = x - 97
    . rw [if_pos e2, if_pos e2, e2]
     exact ⟨w1, rfl, w3⟩
    . rw [if_neg e2, if_neg e2]
     exact h.sw s hs1 hs2
   . intro s
    rw [sw_putq B _ _ _ hsl]
    split
    . show (B.sw (x - 97)).late <= 1000
     exact h.lt _
    . exact h.lt s
  . rw [if_neg e, if_neg e, if_neg e]
   exact ⟨h, hi, rfl⟩
 . rw [if_neg h3] at hc; simp at hc
theorem doC_L (C : RBx) (f : Fr) (c x : Nat) : (C.doC f c x).L = C.L := by
 unfold RBx.doC RBx.ask RBx.cancel RBx.put
 repeat' split
 all_goals rfl
theorem Sim.doN {B : PBx} {C : RBx} {pf : PFr} {f : Fr} (h : Sim B C) (hi : Inv C) (hf : FrS pf f C.L) (n : Nat)
  (hc : ∀ j, j < n -> C.L.cmdB (pk f.cmds (2 * j)) (pk f.cmds (2 * j + 1)) = true /\ pf.cmds.getD j (0, 0) = (pk f.cmds (2 * j), pk f.cmds (2 * j + 1) - cbase (pk f.cmds (2 * j)))) : ∀ k, k <= n →
  Sim (B.doN pf k) (C.doN f k) /\ Inv (C.doN f k) /\ (C.doN f k).L = C.L /\ B.doAs pf k = C.doAs f k
 | 0, _ => ⟨h, hi, rfl, rfl⟩
 | k + 1, hk => by
  obtain ⟨a, b, c, d⟩ := Sim.doN h hi hf n hc k (by omega)
  obtain ⟨e1, e2⟩ := hc k (by omega)
  obtain ⟨x, y, z⟩ := a.do1 b (f := f) (pf := pf) (by rw [c]; exact hf) (c := pk f.cmds (2 * k)) (x := pk f.cmds (2 * k + 1)) (by rw [c]; exact e1)
  refine ⟨?_, y, (doC_L _ _ _ _).trans c, ?_⟩
  . show Sim ((B.doN pf k).do1 pf (pf.cmds.getD k (0, 0))) _
   rw [e2]
   exact x
  . unfold PBx.doAs RBx.doAs at d ⊢
   rw [List.range_succ, List.map_append, List.map_append, d]
   congr 1
   show [(B.doN pf k).doA (pf.cmds.getD k (0, 0))] = [C.doAt f k]
   rw [e2, z]
   rfl
theorem rwant_get (C : RBx) (r : Nat) : ∀ k, k <= C.wanted.length -> (C.wantN r k).wanted.length = C.wanted.length /\ (∀ s, (C.wantN r k).wanted.getD s 0 = if s < k /\ C.L.wantsF r s ≠ 0 then C.L.wantsF r s else C.wanted.getD s 0) ∧
  (C.wantN r k).L = C.L /\ (C.wantN r k).lines = C.lines /\ (C.wantN r k).failed = C.failed /\ (C.wantN r k).late = C.late /\ (C.wantN r k).sta = C.sta /\ (C.wantN r k).waits = C.waits
 | 0, _ => ⟨rfl, fun s => by rw [if_neg (by omega)]; rfl, rfl, rfl, rfl, rfl, rfl, rfl⟩
 | k + 1, hk => by
  obtain ⟨a, b, c, d, e, g, i, j⟩ := rwant_get C r k (by omega)
  show ((C.wantN r k).wantK r k).wanted.length = _ /\ (∀ s, ((C.wantN r k).wantK r k).wanted.getD s 0 = _) /\ ((C.wantN r k).wantK r k).L = _ /\ ((C.wantN r k).wantK r k).lines = _ /\ ((C.wantN r k).wantK r k).failed = _ /\ ((C.wantN r k).wantK r k).late = _ /\ ((C.wantN r k).wantK r k).sta = _ /\ ((C.wantN r k).wantK r k).waits = _
  unfold RBx.wantK
  rw [c]
  by_cases hw : C.L.wantsF r k = 0
  . rw [if_pos hw]
   refine ⟨a, fun s => ?_, c, d, e, g, i, j⟩
   rw [b]
   by_cases e1 : s < k /\ C.L.wantsF r s ≠ 0
   . rw [if_pos e1, if_pos ⟨by omega, e1.2⟩]
   . rw [if_neg e1, if_neg]
    rintro ⟨e2, e3⟩
    by_cases e4 : s = k
    . subst e4; exact e3 hw
    . exact e1 ⟨by omega, e3⟩
  . rw [if_neg hw]
   refine ⟨(by show ((C.wantN r k).wanted.set k _).length = _; rw [List.length_set]; exact a), fun s => ?_, rfl, d, e, g, i, j⟩
   show ((C.wantN r k).wanted.set k _).getD s 0 = _
   rw [getD_setq _ _ _ _ _ (by rw [a]; omega)]
   by_cases e1 : s = k
   . subst e1
    rw [if_pos rfl, if_pos ⟨by omega, hw⟩]
   . rw [if_neg e1, b]
    by_cases e2 : s < k /\ C.L.wantsF r s ≠ 0
    . rw [if_pos e2, if_pos ⟨by omega, e2.2⟩]
    . rw [if_neg e2, if_neg]
     rintro ⟨e3, e4⟩
     exact e2 ⟨by omega, e4⟩
theorem pwant_get (B : PBx) (l : List (Nat × Nat)) (W : Nat -> Nat) (hl : ∀ x, x ∈ l -> x.1 < B.sws.length /\ x.2 = W x.1) : ∀ k, k <= l.length -> (B.wantN l k).sws.length = B.sws.length ∧
  (∀ s, ((B.wantN l k).sw s).late = (B.sw s).late /\ ((B.wantN l k).sw s).failed = (B.sw s).failed /\ ((B.wantN l k).sw s).wanted = if has (l.take k) s then W s else (B.sw s).wanted) ∧
  (B.wantN l k).L = B.L /\ (B.wantN l k).rts = B.rts /\ (B.wantN l k).sta = B.sta /\ (B.wantN l k).waits = B.waits
 | 0, _ => ⟨rfl, fun s => ⟨rfl, rfl, rfl⟩, rfl, rfl, rfl, rfl⟩
 | k + 1, hk => by
  obtain ⟨a, b, c, d, e, g⟩ := pwant_get B l W hl k (by omega)
  have hk' : k < l.length := by omega
  have ek : l.getD k (0, 0) = l[k] := by rw [List.getD_eq_getElem?_getD, List.getElem?_eq_getElem hk']; rfl
  obtain ⟨h1, h2⟩ := hl l[k] (List.getElem_mem hk')
  have eN : B.wantN l (k + 1) = (B.wantN l k).putS l[k].1 { (B.wantN l k).sw l[k].1 with wanted := l[k].2 } := by
   show (B.wantN l k).want1 (l.getD k (0, 0)) = _
   unfold PBx.want1
   rw [ek, if_pos (by rw [a]; exact h1)]
  rw [eN]
  refine ⟨(by show ((B.wantN l k).sws.set _ _).length = _; rw [List.length_set]; exact a), fun s => ?_, c, d, e, g⟩
  rw [sw_putq _ _ _ _ (by rw [a]; exact h1)]
  have eh : has (l.take (k + 1)) s = (has (l.take k) s || l[k].1 == s) := by
   rw [Bool.eq_iff_iff, Bool.or_eq_true, has_iff, has_iff, List.take_succ_eq_append_getElem hk']
   simp only [List.mem_append, List.mem_singleton, beq_iff_eq]
   constructor
   . rintro ⟨x, hx | hx, rfl⟩
    . exact Or.inl ⟨x, hx, rfl⟩
    . subst hx; exact Or.inr rfl
   . rintro (⟨x, hx, rfl⟩ | hx)
    . exact ⟨x, Or.inl hx, rfl⟩
    . exact ⟨l[k], Or.inr rfl, hx⟩
  obtain ⟨b1, b2, b3⟩ := b s
  by_cases e1 : s = l[k].1
  . rw [if_pos e1, eh]
   have : (l[k].1 == s) = true := by simpa using e1.symm
   rw [this, Bool.or_true, if_pos rfl, e1]
   rw [e1] at b1 b2
   exact ⟨b1, b2, h2⟩
  . rw [if_neg e1, eh]
   have : (l[k].1 == s) = false := by
    rw [beq_eq_false_iff_ne]
    exact fun hh => e1 hh.symm
   rw [this, Bool.or_false]
   exact ⟨b1, b2, b3⟩
theorem Sim.grantB {B : PBx} {C : RBx} {pf : PFr} {f : Fr} (h : Sim B C) (hi : Inv C) (hf : FrS pf f C.L) {t : Nat} (ht : t < C.L.tns.length) (hj : C.sta.getD t 0 < (C.L.tn t).jny.length) :
  C.nxt t < C.L.rts.length /\ B.nextR t = some (C.nxt t) /\ B.grantB pf t = C.grantB f t := by
 have en : B.nextR t = some (C.nxt t) := by
  rw [h.next hi ht, List.getElem?_eq_getElem hj]
  unfold RBx.nxt
  rw [getD_atq hj]
 have hr : C.nxt t < C.L.rts.length := by
  refine hi.lay.good.jnys (C.L.tn t) ?_ _ ?_
  . unfold Lay.tn
   rw [List.getD_eq_getElem?_getD, List.getElem?_eq_getElem ht]
   exact List.getElem_mem ht
  . unfold RBx.nxt
   rw [getD_atq hj]
   exact List.getElem_mem hj
 refine ⟨hr, en, ?_⟩
 unfold PBx.grantB RBx.grantB
 rw [en]
 simp only
 have : decide (C.nxt t < B.rts.length) = true := by rw [h.rl]; simpa using hr
 rw [this, Bool.true_and]
 unfold PBx.grantR
 rw [h.setFor hi, (h.lr _ hr).rt, Bool.and_assoc (!C.isSet t), h.free hi hf hr, h.L]
 congr 1
 have : oneM B.sta t = C.more t := by unfold oneM RBx.more; rw [h.sta]
 rw [this]
 exact ok_sound C.L _ (by unfold RBx.more; rw [List.length_set]; exact hi.st)
theorem Sim.given {B : PBx} {C : RBx} {pf : PFr} {f : Fr} (h : Sim B C) (hi : Inv C) (hf : FrS pf f C.L) {t : Nat} {a l : List Nat} (hw : C.waits = a ++ t :: l) (hg : C.grantB f t = true) :
  Sim { B.given (C.nxt t) t with waits := a ++ l } { C.given (C.nxt t) t with waits := a ++ l } /\ Inv { C.given (C.nxt t) t with waits := a ++ l } := by
 obtain ⟨ht, hj⟩ := hi.wt t (by rw [hw]; simp)
 obtain ⟨hr, -, -⟩ := h.grantB hi hf ht hj
 have hns : C.isSet t = false := by
  unfold RBx.grantB at hg
  simp only [Bool.and_eq_true, Bool.not_eq_true'] at hg
  exact hg.1.1
 obtain ⟨r, hrr⟩ : ∃ r, r = C.nxt t := ⟨_, rfl⟩
 rw [<- hrr] at hr ⊢
 have ho := hi.rt hr
 have hl := h.lr r hr
 have hgets : ∀ t', (C.more t).getD t' 0 = if t' = t then C.sta.getD t 0 + 1 else C.sta.getD t' 0 := fun t' => getD_setq _ _ _ _ _ (by rw [hi.st]; exact ht)
 obtain ⟨r1, r2, r3, r4, r5, r6, r7, r8⟩ := rwant_get { C with sta := C.more t } r C.L.sw.length (by show C.L.sw.length <= C.wanted.length; rw [hi.wl]; exact Nat.le_refl _)
 have hsw : ∀ x, x ∈ swsOf (C.L.rt r) -> x.1 < B.sws.length /\ x.2 = C.L.wantsF r x.1 := by
  intro x hx
  obtain ⟨p, q⟩ := (sws_iff ho x).1 hx
  refine ⟨by rw [h.sl]; exact (wants_sw ho (by rw [q]; exact p)).1, q.symm⟩
 obtain ⟨p1, p2, p3, p4, p5, p6⟩ := pwant_get ({ B with sta := oneM B.sta t }.putR r ((B.route r).set t)) (swsOf (C.L.rt r)) (C.L.wantsF r) hsw (swsOf (C.L.rt r)).length (Nat.le_refl _)
 rw [List.take_length] at p2
 have eB : B.given r t = ({ B with sta := oneM B.sta t }.putR r ((B.route r).set t)).wantN (swsOf (C.L.rt r)) (swsOf (C.L.rt r)).length := by
  show ({ B with sta := oneM B.sta t }.putR r ((B.route r).set t)).wantN (swsOf (B.route r).rt) (swsOf (B.route r).rt).length = _
  rw [hl.rt]
 have eC : C.given r t = (({ C with sta := C.more t } : RBx).wantN r C.L.sw.length).put r (RLnW t) := rfl
 have hlen : r < (({ C with sta := C.more t } : RBx).wantN r C.L.sw.length).lines.length := by
  rw [r4]; show r < C.lines.length; rw [hi.ll]; exact hr
 have hline : ∀ r', (C.given r t).line r' = if r' = r then RLnW t else C.line r' := by
  intro r'
  rw [eC, line_putq _ r r' _ hlen]
  by_cases e : r' = r
  . rw [if_pos e, if_pos e]
  . rw [if_neg e, if_neg e]
   unfold RBx.line
   rw [r4]
 have hrte : ∀ r', (B.given r t).route r' = if r' = r then (B.route r).set t else B.route r' := by
  intro r'
  rw [eB]
  have : ∀ (X : PBx), X.rts = ({ B with sta := oneM B.sta t }.putR r ((B.route r).set t)).rts -> X.route r' = ({ B with sta := oneM B.sta t }.putR r ((B.route r).set t)).route r' := by
   intro X hX
   show X.rts.getD r' _ = _
   rw [hX]
   rfl
  rw [this _ p4, route_putq _ r r' _ (by show r < B.rts.length; rw [h.rl]; exact hr)]
  rfl
 have cL : (C.given r t).L = C.L := r3
 have hp6 := ho.pl
 have hnot : ∀ r', r' < C.L.rts.length -> (C.line r').ph ≠ 46 -> (C.line r').train ≠ t := by
  intro r' hr' hp e
  unfold RBx.isSet at hns
  rw [List.any_eq_false] at hns
  have := hns r' (List.mem_range.2 (by rw [hi.ll]; exact hr'))
  unfold RBx.setB at this
  simp [hp, e] at this
 have hnd := hi.wn
 rw [hw, List.nodup_append] at hnd
 obtain ⟨n1, n2, n3⟩ := hnd
 rw [List.nodup_cons] at n2
 have hnt : t ∉ a ++ l := by
  intro hm
  rcases List.mem_append.1 hm with hm | hm
  . exact n3 t hm t (by simp) rfl
  . exact n2.1 hm
 refine ⟨⟨?_, ?_, ?_, ?_, ?_, ?_, ?_, rfl⟩, ⟨?_, ?_, ?_, ?_, ?_, ?_, ?_, ?_, ?_, ?_, ?_, ?_, ?_, ?_⟩⟩
 . show (B.given r t).L = (C.given r t).L
  rw [eB, p3, cL]; exact h.L
 . show (B.given r t).rts.length = (C.given r t).L.rts.length
  rw [eB, p4, cL]
  show (B.rts.set r _).length = _
  rw [List.length_set]; exact h.rl
 . intro r' hr'
  have hr'' : r' < C.L.rts.length := by rw [<- cL]; exact hr'
  show LR (C.given r t).L r' ((B.given r t).route r') ((C.given r t).line r')
  rw [cL, hline, hrte]
  by_cases e : r' = r
  . subst e
   rw [if_pos rfl, if_pos rfl]
   refine ⟨hl.rt, rfl, fun _ => rfl, fun _ => rfl, fun _ => rfl, fun _ => ?_, fun hh => by simp [RLnW] at hh, fun hh => by simp [RLnW] at hh, hl.cb, Nat.zero_le _, ?_⟩
   . show (List.replicate (B.route r').rt.path.length false).length = _
    rw [List.length_replicate, hl.rt]
   . show (List.replicate (B.route r').rt.path.length false).length <= _
    rw [List.length_replicate, hl.rt]; omega
  . rw [if_neg e, if_neg e]
   exact h.lr r' hr''
 . show (B.given r t).sws.length = (C.given r t).L.sw.length
  rw [eB, p1, cL]; exact h.sl
 . intro s hs hs2
  have hs' : s < C.L.sw.length := by rw [<- cL]; exact hs
  have hs2' : C.L.sw.getD s false = true := by rw [<- cL]; exact hs2
  show ((B.given r t).sw s).wanted = (C.given r t).wanted.getD s 0 /\ ((B.given r t).sw s).failed = (C.given r t).failed.getD s false /\ ((B.given r t).sw s).late = (C.given r t).late.getD s 0
  obtain ⟨q1, q2, q3⟩ := p2 s
  rw [eB, q1, q2, q3, eC]
  show (if has (swsOf (C.L.rt r)) s = true then C.L.wantsF r s else (B.sw s).wanted) = (({ C with sta := C.more t } : RBx).wantN r C.L.sw.length).wanted.getD s 0 /\ (B.sw s).failed = (({ C with sta := C.more t } : RBx).wantN r C.L.sw.length).failed.getD s false /\ (B.sw s).late = (({ C with sta := C.more t } : RBx).wantN r C.L.sw.length).late.getD s 0
  rw [r2, r5, r6, has_sws ho]
  obtain ⟨w1, w2, w3⟩ := h.sw s hs' hs2'
  refine ⟨?_, w2, w3⟩
  show _ = if s < C.L.sw.length /\ C.L.wantsF r s ≠ 0 then C.L.wantsF r s else C.wanted.getD s 0
  by_cases e : C.L.wantsF r s = 0
  . rw [if_neg (by simp [e]), if_neg (by rintro ⟨-, hh⟩; exact hh e)]
   exact w1
  . rw [if_pos (by simpa using e), if_pos ⟨hs', e⟩]
 . intro s
  show ((B.given r t).sw s).late <= 1000
  rw [eB, (p2 s).1]
  exact h.lt s
 . show (B.given r t).sta = (C.given r t).sta
  rw [eB, p5, eC]
  show oneM B.sta t = (({ C with sta := C.more t } : RBx).wantN r C.L.sw.length).sta
  rw [r7]
  show oneM B.sta t = C.more t
  unfold oneM RBx.more; rw [h.sta]
 . show LayOK (C.given r t).L
  rw [cL]; exact hi.lay
 . show (C.given r t).lines.length = (C.given r t).L.rts.length
  rw [cL, eC]
  show ((({ C with sta := C.more t } : RBx).wantN r C.L.sw.length).lines.set r _).length = _
  rw [List.length_set, r4]; exact hi.ll
 . show (({ C with sta := C.more t } : RBx).wantN r C.L.sw.length).wanted.length = (C.given r t).L.sw.length
  rw [cL, r1]; exact hi.wl
 . show (({ C with sta := C.more t } : RBx).wantN r C.L.sw.length).failed.length = (C.given r t).L.sw.length
  rw [cL, r5]; exact hi.fl
 . show (({ C with sta := C.more t } : RBx).wantN r C.L.sw.length).late.length = (C.given r t).L.sw.length
  rw [cL, r6]; exact hi.dl
 . show (({ C with sta := C.more t } : RBx).wantN r C.L.sw.length).sta.length = (C.given r t).L.tns.length
  rw [cL, r7]
  show (C.sta.set _ _).length = _
  rw [List.length_set]; exact hi.st
 . intro t'
  show (({ C with sta := C.more t } : RBx).wantN r C.L.sw.length).sta.getD t' 0 <= ((C.given r t).L.tn t').jny.length
  rw [cL, r7]
  show (C.more t).getD t' 0 <= _
  rw [hgets]
  by_cases e : t' = t
  . rw [if_pos e, e]; omega
  . rw [if_neg e]; exact hi.sj t'
 . intro s
  show (({ C with sta := C.more t } : RBx).wantN r C.L.sw.length).late.getD s 0 < (C.given r t).L.T
  rw [cL, r6]; exact hi.late s
 . intro r' hr'
  have hr'' : r' < C.L.rts.length := by rw [<- cL]; exact hr'
  show LI (C.given r t).L r' ((C.given r t).line r')
  rw [cL, hline]
  by_cases e : r' = r
  . rw [if_pos e]
   exact ⟨fun _ => rfl, fun hh => by simp [RLnW] at hh, Nat.zero_le _⟩
  . rw [if_neg e]; exact hi.li r' hr''
 . intro r' hr' hp
  have hr'' : r' < C.L.rts.length := by rw [<- cL]; exact hr'
  have hp' : ((C.given r t).line r').ph ≠ 46 := hp
  show ((C.given r t).line r').train < (C.given r t).L.tns.length /\ 1 <= (({ C with sta := C.more t } : RBx).wantN r C.L.sw.length).sta.getD ((C.given r t).line r').train 0
  rw [cL, r7]
  show _ /\ 1 <= (C.more t).getD ((C.given r t).line r').train 0
  rw [hgets]
  rw [hline] at hp' ⊢
  by_cases e : r' = r
  . rw [if_pos e]
   refine ⟨ht, ?_⟩
   show 1 <= if t = t then _ else _
   rw [if_pos rfl]; omega
  . rw [if_neg e] at hp' ⊢
   obtain ⟨x, y⟩ := hi.tr r' hr'' hp'
   refine ⟨x, ?_⟩
   rw [if_neg (hnot r' hr'' hp')]
   exact y
 . intro x y hx hy hpx hpy hxy
  have hx' : x < C.L.rts.length := by rw [<- cL]; exact hx
  have hy' : y < C.L.rts.length := by rw [<- cL]; exact hy
  have hpx' : ((C.given r t).line x).ph ≠ 46 := hpx
  have hpy' : ((C.given r t).line y).ph ≠ 46 := hpy
  have hxy' : ((C.given r t).line x).train = ((C.given r t).line y).train := hxy
  rw [hline] at hpx' hpy' hxy'
  rw [hline] at hxy'
  by_cases ex : x = r <;> by_cases ey : y = r
  . omega
  . rw [if_pos ex, if_neg ey] at hxy'
   rw [if_neg ey] at hpy'
   exact absurd hxy'.symm (hnot y hy' hpy')
  . rw [if_neg ex, if_pos ey] at hxy'
   rw [if_neg ex] at hpx'
   exact absurd hxy' (hnot x hx' hpx')
  . rw [if_neg ex, if_neg ey] at hxy'
   rw [if_neg ex] at hpx'
   rw [if_neg ey] at hpy'
   exact hi.one x y hx' hy' hpx' hpy' hxy'
 . show (a ++ l).length <= (C.given r t).L.Q
  rw [cL]
  have := hi.wq
  rw [hw] at this
  simp only [List.length_append, List.length_cons] at this ⊢
  omega
 . show (a ++ l).Nodup
  rw [List.nodup_append]
  exact ⟨n1, n2.2, fun x hx y hy => n3 x hx y (List.mem_cons_of_mem _ hy)⟩
 . intro t' ht'
  have ht'' : t' ∈ a ++ l := ht'
  have hne : t' ≠ t := by intro e; subst e; exact hnt ht''
  have hm : t' ∈ C.waits := by
   rw [hw]
   rcases List.mem_append.1 ht'' with hm | hm
   . exact List.mem_append_left _ hm
   . exact List.mem_append_right _ (List.mem_cons_of_mem _ hm)
  show t' < (C.given r t).L.tns.length /\ (({ C with sta := C.more t } : RBx).wantN r C.L.sw.length).sta.getD t' 0 < ((C.given r t).L.tn t').jny.length
  rw [cL, r7]
  show _ /\ (C.more t).getD t' 0 < _
  rw [hgets, if_neg hne]
  exact hi.wt t' hm
end Go.Proofs.YtkbpocecbcaiiaaGreatDoor
namespace Go.Proofs.YtkbpocecbcaiiaaGreatDoor
open Go.RowKit
theorem rwantN_w (C : RBx) (l : List Nat) (r : Nat) : ∀ k, ({ C with waits := l } : RBx).wantN r k = { C.wantN r k with waits := l }
 | 0 => rfl
 | k + 1 => by
  show (({ C with waits := l } : RBx).wantN r k).wantK r k = { (C.wantN r k).wantK r k with waits := l }
  rw [rwantN_w C l r k]
  unfold RBx.wantK
  simp only
  split <;> rfl
theorem pwantN_w (B : PBx) (q : List Nat) (l : List (Nat × Nat)) : ∀ k, ({ B with waits := q } : PBx).wantN l k = { B.wantN l k with waits := q }
 | 0 => rfl
 | k + 1 => by
  show (({ B with waits := q } : PBx).wantN l k).want1 (l.getD k (0, 0)) = { (B.wantN l k).want1 (l.getD k (0, 0)) with waits := q }
  rw [pwantN_w B q l k]
  unfold PBx.want1
  simp only
  split <;> rfl
theorem rgiven_w (C : RBx) (l q : List Nat) (r t : Nat) : ({ ({ C with waits := l } : RBx).given r t with waits := q } : RBx) = { C.given r t with waits := q } := by
 show ({ ((({ { C with sta := C.more t } with waits := l } : RBx).wantN r C.L.sw.length).put r (RLnW t)) with waits := q } : RBx) = { ((({ C with sta := C.more t } : RBx).wantN r C.L.sw.length).put r (RLnW t)) with waits := q }
 rw [rwantN_w]
 rfl
theorem pgiven_w (B : PBx) (l q : List Nat) (r t : Nat) : ({ ({ B with waits := l } : PBx).given r t with waits := q } : PBx) = { B.given r t with waits := q } := by
 show ({ (({ ({ B with sta := oneM B.sta t }.putR r ((B.route r).set t)) with waits := l } : PBx).wantN (swsOf (B.route r).rt) (swsOf (B.route r).rt).length) with waits := q } : PBx) = { (({ B with sta := oneM B.sta t }.putR r ((B.route r).set t)).wantN (swsOf (B.route r).rt) (swsOf (B.route r).rt).length) with waits := q }
 rw [pwantN_w]
theorem given_L (C : RBx) (r t : Nat) (hl : C.wanted.length = C.L.sw.length) : (C.given r t).L = C.L :=
 (rwant_get { C with sta := C.more t } r C.L.sw.length (by show _ <= C.wanted.length; rw [hl]; exact Nat.le_refl _)).2.2.1
theorem Sim.grantN {B : PBx} {C : RBx} {pf : PFr} {f : Fr} (h : Sim B C) (hi : Inv C) (hf : FrS pf f C.L) : ∀ k, k <= C.waits.length →
  Sim { B.grantN pf k with waits := C.leftN f k ++ C.waits.drop k } { C.grantN f k with waits := C.leftN f k ++ C.waits.drop k } /\ Inv { C.grantN f k with waits := C.leftN f k ++ C.waits.drop k } ∧
  (C.grantN f k).L = C.L /\ B.servN pf k = C.servN f k /\ B.leftN pf k = C.leftN f k /\ (∀ t, t ∈ C.servN f k -> t ∈ C.waits) /\ (C.servN f k).length <= k
 | 0, _ => by
  refine ⟨?_, ?_, rfl, rfl, rfl, fun t ht => by simp [RBx.servN] at ht, Nat.le_refl _⟩
  . show Sim { B with waits := [] ++ C.waits.drop 0 } { C with waits := [] ++ C.waits.drop 0 }
   rw [List.drop_zero, List.nil_append]
   rw [<- h.waits]
   have e : ({ C with waits := B.waits } : RBx) = C := by rw [h.waits]
   rw [e]
   exact h
  . show Inv { C with waits := [] ++ C.waits.drop 0 }
   rw [List.drop_zero, List.nil_append]
   exact hi
 | k + 1, hk => by
  obtain ⟨a, b, c, d, e, g, j⟩ := Sim.grantN h hi hf k (by omega)
  have hk' : k < C.waits.length := by omega
  have ed : C.waits.drop k = C.waits[k] :: C.waits.drop (k + 1) := List.drop_eq_getElem_cons hk'
  have et : C.waits.getD k 0 = C.waits[k] := getD_atq hk'
  have hf' : FrS pf f (C.grantN f k).L := by rw [c]; exact hf
  obtain ⟨Bk, hBk⟩ : ∃ X, X = B.grantN pf k := ⟨_, rfl⟩
  obtain ⟨Ck, hCk⟩ : ∃ X, X = C.grantN f k := ⟨_, rfl⟩
  obtain ⟨t, htt⟩ : ∃ t, t = C.waits[k] := ⟨_, rfl⟩
  rw [<- hBk, <- hCk] at a
  rw [<- hCk] at b c hf'
  have hmem : t ∈ C.leftN f k ++ C.waits.drop k := by rw [ed, <- htt]; simp
  obtain ⟨ht, hj⟩ := b.wt t hmem
  have hgB := a.grantB b hf' (t := t) ht hj
  obtain ⟨hr, hn, hg⟩ := hgB
  have hg' : Bk.grantB pf t = Ck.grantB f t := hg
  have hn' : Bk.nextR t = some (Ck.nxt t) := hn
  have eS : B.servN pf (k + 1) = if Bk.grantB pf t then B.servN pf k ++ [t] else B.servN pf k := by
   show (if (B.grantN pf k).grantB pf (B.waits.getD k 0) then B.servN pf k ++ [B.waits.getD k 0] else B.servN pf k) = _
   rw [h.waits, et, <- htt, <- hBk]
  have eL : B.leftN pf (k + 1) = if Bk.grantB pf t then B.leftN pf k else B.leftN pf k ++ [t] := by
   show (if (B.grantN pf k).grantB pf (B.waits.getD k 0) then B.leftN pf k else B.leftN pf k ++ [B.waits.getD k 0]) = _
   rw [h.waits, et, <- htt, <- hBk]
  have eG : B.grantN pf (k + 1) = Bk.grant pf t := by
   show (B.grantN pf k).grant pf (B.waits.getD k 0) = _
   rw [h.waits, et, <- htt, <- hBk]
  have fS : C.servN f (k + 1) = if Ck.grantB f t then C.servN f k ++ [t] else C.servN f k := by
   show (if (C.grantN f k).grantB f (C.waits.getD k 0) then C.servN f k ++ [C.waits.getD k 0] else C.servN f k) = _
   rw [et, <- htt, <- hCk]
  have fL : C.leftN f (k + 1) = if Ck.grantB f t then C.leftN f k else C.leftN f k ++ [t] := by
   show (if (C.grantN f k).grantB f (C.waits.getD k 0) then C.leftN f k else C.leftN f k ++ [C.waits.getD k 0]) = _
   rw [et, <- htt, <- hCk]
  have fG : C.grantN f (k + 1) = Ck.grant f t := by
   show (C.grantN f k).grant f (C.waits.getD k 0) = _
   rw [et, <- htt, <- hCk]
  have gP : Bk.grant pf t = if Bk.grantB pf t then Bk.given (Ck.nxt t) t else Bk := by
   unfold PBx.grant PBx.grantB
   rw [hn']
  have gC : Ck.grant f t = if Ck.grantB f t then Ck.given (Ck.nxt t) t else Ck := rfl
  have hmt : t ∈ C.waits := by rw [htt]; exact List.getElem_mem hk'
  rw [eS, eL, eG, fS, fL, fG, gP, gC, hg', d, e]
  by_cases hq : Ck.grantB f t = true
  . simp only [if_pos hq]
   have hw : ({ Ck with waits := C.leftN f k ++ C.waits.drop k } : RBx).waits = C.leftN f k ++ t :: C.waits.drop (k + 1) := by
    show C.leftN f k ++ C.waits.drop k = _
    rw [ed, <- htt]
   have hsg := a.given b hf' hw hq
   have e1 := rgiven_w Ck (C.leftN f k ++ C.waits.drop k) (C.leftN f k ++ C.waits.drop (k + 1)) (Ck.nxt t) t
   have e2 := pgiven_w Bk (C.leftN f k ++ C.waits.drop k) (C.leftN f k ++ C.waits.drop (k + 1)) (Ck.nxt t) t
   have hsg1 : Sim { ({ Bk with waits := C.leftN f k ++ C.waits.drop k } : PBx).given (Ck.nxt t) t with waits := C.leftN f k ++ C.waits.drop (k + 1) } { ({ Ck with waits := C.leftN f k ++ C.waits.drop k } : RBx).given (Ck.nxt t) t with waits := C.leftN f k ++ C.waits.drop (k + 1) } := hsg.1
   have hsg2 : Inv { ({ Ck with waits := C.leftN f k ++ C.waits.drop k } : RBx).given (Ck.nxt t) t with waits := C.leftN f k ++ C.waits.drop (k + 1) } := hsg.2
   rw [e1] at hsg1 hsg2
   rw [e2] at hsg1
   refine ⟨hsg1, hsg2, (given_L Ck _ _ b.wl).trans c, by trivial, by trivial, ?_, ?_⟩
   . intro t' ht'
    rcases List.mem_append.1 ht' with hm | hm
    . exact g t' hm
    . rw [List.mem_singleton] at hm; rw [hm]; exact hmt
   . simp only [List.length_append, List.length_cons, List.length_nil]; omega
  . simp only [if_neg hq]
   have ew : C.leftN f k ++ [t] ++ C.waits.drop (k + 1) = C.leftN f k ++ C.waits.drop k := by
    rw [ed, <- htt, List.append_assoc]; rfl
   rw [ew]
   exact ⟨a, b, c, by trivial, by trivial, g, by omega⟩
theorem Sim.grants {B : PBx} {C : RBx} {pf : PFr} {f : Fr} (h : Sim B C) (hi : Inv C) (hf : FrS pf f C.L) :
  Sim (B.grants pf) (C.grants f) /\ Inv (C.grants f) /\ (C.grants f).L = C.L /\ B.servN pf B.waits.length = C.servN f C.waits.length /\ (∀ t, t ∈ C.servN f C.waits.length -> t ∈ C.waits) /\ (C.servN f C.waits.length).length <= C.waits.length := by
 obtain ⟨a, b, c, d, e, g, j⟩ := h.grantN hi hf C.waits.length (Nat.le_refl _)
 rw [List.drop_length, List.append_nil] at a b
 unfold PBx.grants RBx.grants
 rw [h.waits, e]
 exact ⟨a, b, c, d, g, j⟩
theorem Inv.gone {C : RBx} (h : Inv C) : ∀ x, x ∈ C.lines -> x.gone <= 1000 /\ x.count <= 1000 := by
 intro x hx
 obtain ⟨r, hr, rfl⟩ := List.mem_iff_getElem.1 hx
 have hr' : r < C.L.rts.length := by rw [<- h.ll]; exact hr
 have e : C.line r = C.lines[r] := getD_atq hr
 have hli := h.li r hr'
 have hp := (h.rt hr').pl
 rw [e] at hli
 refine ⟨?_, hli.ct⟩
 by_cases h1 : C.lines[r].ph = 116
 . have := (hli.ps h1).2; omega
 . rw [hli.g0 h1]; omega
theorem mem_getDn {l : List Nat} {x : Nat} (h : x ∈ l) : ∃ i, i < l.length /\ l.getD i 0 = x := by
 obtain ⟨i, hi, rfl⟩ := List.mem_iff_getElem.1 h
 exact ⟨i, hi, getD_atq hi⟩
theorem Inv.sta8 {C : RBx} (h : Inv C) : ∀ x, x ∈ C.sta -> x <= 8 := by
 intro x hx
 obtain ⟨t, ht, rfl⟩ := mem_getDn hx
 have := h.sj t
 have ht' : t < C.L.tns.length := by rw [<- h.st]; exact ht
 have hm : C.L.tn t ∈ C.L.tns := by
  unfold Lay.tn
  rw [getD_atq ht']
  exact List.getElem_mem ht'
 have := h.lay.good.jl _ hm
 omega
theorem Inv.sta8g {C : RBx} (h : Inv C) (t : Nat) : C.sta.getD t 0 <= 8 := by
 by_cases ht : t < C.sta.length
 . exact h.sta8 _ (by rw [getD_atq ht]; exact List.getElem_mem ht)
 . rw [List.getD_eq_getElem?_getD, List.getElem?_eq_none (by omega)]
  exact Nat.zero_le _
theorem Inv.watchOK {C : RBx} {pf : PFr} {f : Fr} (h : Inv C) (hf : FrS pf f C.L) : WatchOK C f := by
 have h1 := h.lay.sw
 have h2 := h.lay.rl
 have h3 := h.lay.T
 refine ⟨by omega, h.wl, h.fl, h.dl, hf.pl, by rw [h.ll]; exact Nat.le_refl _, by omega, fun x hx => (h.gone x hx).1, fun x hx => ?_⟩
 obtain ⟨s, -, rfl⟩ := mem_getDn hx
 have := h.late s
 omega
theorem Inv.stepOK {C : RBx} {pf : PFr} {f : Fr} (h : Inv C) (hf : FrS pf f C.L) {r : Nat} (hr : r < C.L.rts.length) : StepOK C f r := by
 have h1 := h.lay.sw
 have h2 := h.lay.rl
 have ho := h.rt hr
 have hp := ho.pl
 have hli := h.li r hr
 refine ⟨by rw [h.ll]; exact Nat.le_refl _, by omega, by omega, hf.ol, hf.pl, h.fl, ?_, ?_, ?_, by rw [hf.ol]; exact ho.foot, ?_, ?_, hli.ct⟩
 . unfold RBx.pth secs
  intro e
  exact ho.ne (List.map_eq_nil_iff.1 e)
 . unfold RBx.pth
  rw [secs_length]; omega
 . intro s hs
  unfold RBx.pth secs at hs
  obtain ⟨x, hx, rfl⟩ := List.mem_map.1 hs
  rw [hf.ol]
  exact (ho.ps x hx).1
 . intro hp
  have e : (C.pth r).length = (C.L.rt r).path.length := secs_length _
  rw [e]
  exact hli.ps hp
 . intro hp
  obtain ⟨x, y⟩ := h.tr r hr (by omega)
  refine ⟨by rw [h.st]; exact x, y, ?_⟩
  have := h.sta8g (C.line r).train
  omega
theorem Inv.doOK {C : RBx} {pf : PFr} {f : Fr} (h : Inv C) (hf : FrS pf f C.L) : DoOK C f := by
 have := h.wq
 have := h.lay.Q
 exact ⟨h.ll, h.st, h.fl, by omega, fun r hr => by rw [hf.ol]; exact (h.rt hr).foot⟩
theorem Inv.grantOK {C : RBx} {q : List Nat} {pf : PFr} {f : Fr} (h : Inv { C with waits := q }) (hf : FrS pf f C.L) {t : Nat} (ht : t ∈ q) : GrantOK C f t := by
 obtain ⟨a, b⟩ := h.wt t ht
 have h1 : C.L.sw.length <= 16 := h.lay.sw
 have h2 : C.L.rts.length <= 12 := h.lay.rl
 have h3 : C.L.tns.length <= 5 := h.lay.good.tns
 have h4 : C.sta.getD t 0 <= 8 := h.sta8g t
 exact ⟨h.lay.good.paths, h.lay.good.jnys, by omega, h.ll, by omega, by omega, hf.ol, h.fl, h.wl, fun x hx => (h.gone x hx).1, h.st, a, b, by omega⟩
theorem Sim.pgd {B : PBx} {C : RBx} (h : Sim B C) (hi : Inv C) : PGd B := by
 have h2 := hi.lay.rl
 refine ⟨by rw [h.L]; exact hi.lay.good, by rw [h.rl]; omega, ?_, by rw [h.sta, h.L]; exact hi.st, ?_⟩
 . intro y hy
  obtain ⟨r, hr, rfl⟩ := List.mem_iff_getElem.1 hy
  have hr' : r < C.L.rts.length := by rw [<- h.rl]; exact hr
  have e : B.route r = B.rts[r] := getD_atq hr
  have hl := h.lr r hr'
  rw [e] at hl
  have ho := hi.rt hr'
  have := ho.pl
  have := ho.fl
  exact ⟨by rw [hl.rt]; omega, by rw [hl.rt]; omega, hl.mb, hl.fb, hl.cb⟩
 . intro x hx
  rw [h.sta] at hx
  have := hi.sta8 x hx
  omega
theorem pstepN_route (B : PBx) (f : PFr) (r : Nat) : ∀ k, k <= r -> (B.stepN f k).route r = B.route r
 | 0, _ => rfl
 | k + 1, hk => by
  have ih := pstepN_route B f r k (by omega)
  show ((B.stepN f k).step1 f k).route r = _
  rw [<- ih]
  unfold PBx.step1
  have hp : ∀ (X : PBx) (y : PRt), (X.putR k y).route r = X.route r := fun X y => getD_setn _ _ _ _ _ (by omega)
  split
  . exact hp _ _
  . exact hp _ _
theorem pk_at (t : ByteArray) (i : Nat) (h : i < t.size) : pk t i = t[i].toNat := by
 unfold pk
 rw [getD_atq (by simpa using h)]
 rfl
theorem pk_ext (s : ByteArray) (b i : Nat) (h : b + i < s.size) : pk (s.extract b s.size) i = pk s (b + i) := by
 have h' : i < (s.extract b s.size).size := by rw [extract_size]; omega
 rw [pk_at _ _ h', pk_drop s b i h h']
theorem frS_of (L : Lay) (s : ByteArray) : FrS (L.pfrOf s) (L.frOf s) L := ⟨rfl, rfl, by simp [Lay.frOf], by simp [Lay.frOf]⟩
theorem frame_parts (L : Lay) (s : ByteArray) (h : L.frameB s = true) : s.size <= 64 /\ (s.size - L.bgn) % 2 = 0 /\ (L.frOf s).cmds.size = s.size - L.bgn /\ (L.pfrOf s).cmds.length = (s.size - L.bgn) / 2 ∧
  ∀ j, j < (s.size - L.bgn) / 2 -> L.cmdB (pk (L.frOf s).cmds (2 * j)) (pk (L.frOf s).cmds (2 * j + 1)) = true /\ (L.pfrOf s).cmds.getD j (0, 0) = (pk (L.frOf s).cmds (2 * j), pk (L.frOf s).cmds (2 * j + 1) - cbase (pk (L.frOf s).cmds (2 * j))) := by
 unfold Lay.frameB Lay.okC at h
 simp only [Bool.and_eq_true, decide_eq_true_eq, List.all_eq_true, List.mem_range] at h
 obtain ⟨⟨h1, -⟩, h2, h3⟩ := h
 have el : (L.pfrOf s).cmds.length = (s.size - L.bgn) / 2 := by
  show (L.cmdsL s _).length = _
  unfold Lay.cmdsL
  simp
 refine ⟨h1, h2, extract_size s L.bgn, el, fun j hj => ?_⟩
 have e1 : pk (L.frOf s).cmds (2 * j) = pk s (L.bgn + 2 * j) := pk_ext s L.bgn (2 * j) (by omega)
 have e2 : pk (L.frOf s).cmds (2 * j + 1) = pk s (L.bgn + 2 * j + 1) := by
  have := pk_ext s L.bgn (2 * j + 1) (by omega)
  rw [<- Nat.add_assoc] at this
  exact this
 rw [e1, e2]
 refine ⟨h3 j hj, ?_⟩
 have ec : (L.pfrOf s).cmds = (List.range ((s.size - L.bgn) / 2)).map (L.cmdF s) := rfl
 rw [ec, getD_atq (by simpa using hj), List.getElem_map, List.getElem_range]
 rfl
theorem ordStr_nats (o : List Nat) : ordStr o = natsStr (o.map (49 + ·)) := by
 unfold ordStr natsStr
 rw [List.map_map]
 rfl
theorem ans_nats (a b c : List Nat) (o : List Nat) : ansS (natsStr a) (natsStr b) (natsStr c) (ordStr o) = natsStr (ansL a b c (o.map (49 + ·))) := by
 unfold ansS ansL
 rw [ordStr_nats, natsStr_app, natsStr_app, natsStr_app, natsStr_app, natsStr_app, natsStr_app, natsStr_app]
 rfl
theorem flatMap_cg {p q : Nat -> List Nat} {n : Nat} (h : ∀ s, s < n -> p s = q s) : (List.range n).flatMap p = (List.range n).flatMap q := by
 rw [List.flatMap_def, List.flatMap_def]
 congr 1
 refine List.map_congr_left (fun s hs => h s (List.mem_range.1 hs))
theorem Sim.lamps {B : PBx} {C : RBx} (h : Sim B C) (hi : Inv C) : B.lampsT = C.lampsT := by
 unfold PBx.lampsT RBx.lampsT
 apply List.ext_getElem
 . simp only [List.length_map]; rw [h.rl, hi.ll]
 . intro r h1 h2
  simp only [List.length_map] at h1 h2
  rw [List.getElem_map, List.getElem_map]
  have hl := (h.lr r (by rw [<- hi.ll]; exact h2)).ph
  have e : B.route r = B.rts[r] := getD_atq h1
  have e' : C.line r = C.lines[r] := getD_atq h2
  rw [e, e'] at hl
  unfold lampC rlampC
  rw [hl]
theorem Sim.moves {B : PBx} {C : RBx} {pf : PFr} {f : Fr} (h : Sim B C) (hi : Inv C) (hf : FrS pf f C.L) : B.movesT pf = C.movesT f := by
 unfold PBx.movesT RBx.movesT
 rw [h.sl]
 refine flatMap_cg (fun s hs => ?_)
 unfold PBx.moveT RBx.moveT
 rw [h.L]
 by_cases e : C.L.sw.getD s false = true
 . rw [if_pos e, if_pos e, h.move hi hf hs e]
 . rw [if_neg e, if_neg e]
theorem Sim.cyc {B : PBx} {C : RBx} (h : Sim B C) (hi : Inv C) (s : ByteArray) :
  (B.L.frameB s = true -> CycOK B (B.L.pfrOf s)) /\ (C.L.frameB s = true -> RCyc C (C.L.frOf s)) /\ Sim (B.cyc s) (C.cyc s) /\ Inv (C.cyc s) /\ (C.cyc s).L = C.L /\ B.ans s = C.ans s := by
 unfold PBx.cyc RBx.cyc PBx.ans RBx.ans
 rw [h.L]
 by_cases hfb : C.L.frameB s = true
 case neg =>
  have hff : C.L.frameB s = false := by simpa using hfb
  rw [hff]
  exact ⟨fun hh => by simp at hh, fun hh => by simp at hh, h, hi, rfl, rfl⟩
 have hf := frS_of C.L s
 obtain ⟨z1, z2, z3, z4, z5⟩ := frame_parts C.L s hfb
 generalize C.L.pfrOf s = pf at *
 generalize C.L.frOf s = f at *
 -- the stages
 obtain ⟨a1, b1, c1⟩ := h.watchN hi hf C.L.sw.length (Nat.le_refl _)
 have a1' : Sim (B.s1 pf) (C.s1 f) := by unfold PBx.s1 RBx.s1 RBx.watch; rw [h.sl]; exact a1
 have b1' : Inv (C.s1 f) := b1
 have c1' : (C.s1 f).L = C.L := c1
 have hf1 : FrS pf f (C.s1 f).L := by rw [c1']; exact hf
 have hs2 := fun k hk => a1'.stepN b1' hf1 k hk
 obtain ⟨a2, b2, c2⟩ := hs2 (C.s1 f).L.rts.length (Nat.le_refl _)
 have a2' : Sim (B.s2 pf) (C.s2 f) := by unfold PBx.s2 RBx.s2; rw [a1'.rl, b1'.ll]; exact a2
 have b2' : Inv (C.s2 f) := by unfold RBx.s2; rw [b1'.ll]; exact b2
 have c2' : (C.s2 f).L = C.L := by unfold RBx.s2; rw [b1'.ll]; exact c2.trans c1'
 have hf2 : FrS pf f (C.s2 f).L := by rw [c2']; exact hf
 have hs3 := a2'.doN b2' hf2 ((s.size - C.L.bgn) / 2) (by rw [c2']; exact z5)
 obtain ⟨a3, b3, c3, d3⟩ := hs3 ((s.size - C.L.bgn) / 2) (Nat.le_refl _)
 have n3 : f.cmds.size / 2 = (s.size - C.L.bgn) / 2 := by rw [z3]
 have a3' : Sim (B.s3 pf) (C.s3 f) := by unfold PBx.s3 RBx.s3; rw [z4, n3]; exact a3
 have b3' : Inv (C.s3 f) := by unfold RBx.s3; rw [n3]; exact b3
 have c3' : (C.s3 f).L = C.L := by unfold RBx.s3; rw [n3]; exact c3.trans c2'
 have hf3 : FrS pf f (C.s3 f).L := by rw [c3']; exact hf
 obtain ⟨a4, b4, c4, d4, e4, g4⟩ := a3'.grants b3' hf3
 have a4' : Sim (B.s4 pf) (C.s4 f) := a4
 have b4' : Inv (C.s4 f) := b4
 have c4' : (C.s4 f).L = C.L := c4.trans c3'
 have hf4 : FrS pf f (C.s4 f).L := by rw [c4']; exact hf
 have q2 := b2'.wq
 have q2' := b2'.lay.Q
 have q3 := b3'.wq
 have q3' := b3'.lay.Q
 have l0 := hi.lay
 have l4 := b4'.lay.sw
 have t3 : ∀ t, t ∈ (C.s3 f).waits -> t < 9 := by
  intro t ht
  have := (b3'.wt t ht).1
  have := b3'.lay.good.tns
  omega
 rw [if_pos hfb, if_pos hfb, if_pos hfb, if_pos hfb]
 refine ⟨fun _ => ?_, fun _ => ?_, a4', b4', c4', ?_⟩
 . refine ⟨h.pgd hi, by rw [h.L]; have := l0.T; omega, ?_, by rw [h.sl]; have := l0.sw; omega, ?_, by rw [a2'.waits]; omega, by rw [z4]; omega, a3'.pgd b3', by rw [a3'.waits]; omega, ⟨(a4'.pgd b4').rl, (a4'.pgd b4').ok, by rw [a4'.sl]; omega⟩, ⟨?_, ?_⟩, ?_⟩
  . intro x hx
   obtain ⟨i, hi', rfl⟩ := List.mem_iff_getElem.1 hx
   have e : B.sw i = B.sws[i] := getD_atq hi'
   rw [<- e]
   exact h.lt i
  . intro k hk hg
   have hk' : k < (C.s1 f).L.rts.length := by rw [<- a1'.rl]; exact hk
   obtain ⟨x, y, z⟩ := hs2 k (by omega)
   have e : (B.s1 pf).route k = (B.s1 pf).rts[k] := getD_atq hk
   have er := pstepN_route (B.s1 pf) pf k k (Nat.le_refl _)
   have hl := x.lr k (by rw [z]; exact hk')
   rw [er, e] at hl
   have hph : (B.s1 pf).rts[k].ph = 100 := by
    unfold PRt.gave at hg
    by_cases e1 : (B.s1 pf).rts[k].ph = 100
    . exact e1
    . rw [if_neg e1] at hg; simp at hg
   have hne : (((C.s1 f).stepN f k).line k).ph ≠ 46 := by rw [<- hl.ph, hph]; decide
   rw [hl.tr hne, x.sta]
   obtain ⟨u, v⟩ := y.tr k (by rw [z]; exact hk') hne
   have := y.sta8g (((C.s1 f).stepN f k).line k).train
   omega
  . intro t ht
   rw [d4] at ht
   exact t3 t (e4 t ht)
  . rw [d4]; omega
  . unfold PBx.doAs
   rw [List.length_map, List.length_range, z4]
   omega
 . refine ⟨hi.watchOK hf, ?_, ?_, ?_, by rw [z3]; omega, by rw [z3]; exact z2, ?_, by omega, t3, b4'.watchOK hf4, by rw [hf4.ol]⟩
  . intro k hk
   have hk' : k < (C.s1 f).L.rts.length := by rw [<- b1'.ll]; exact hk
   obtain ⟨x, y, z⟩ := hs2 k (by omega)
   refine ⟨y.stepOK (pf := pf) (by rw [z]; exact hf1) (by rw [z]; exact hk'), ?_⟩
   rw [y.ll, z, b1'.ll]
  . rw [b1'.ll]; have := b1'.lay.rl; omega
  . intro k hk
   have hk' : k < (s.size - C.L.bgn) / 2 := by rw [<- n3]; exact hk
   obtain ⟨x, y, z, -⟩ := hs3 k (by omega)
   refine ⟨y.doOK (pf := pf) (by rw [z]; exact hf2), ?_⟩
   rw [z, c2']
   exact (z5 k hk').1
  . intro k hk
   obtain ⟨x, y, z, -⟩ := a3'.grantN b3' hf3 k (by omega)
   refine y.grantOK (pf := pf) (by rw [z]; exact hf3) ?_
   rw [List.drop_eq_getElem_cons hk]
   exact List.mem_append_right _ (List.mem_cons_self ..)
 . unfold PBx.ansB RBx.ansB
  rw [a4'.lamps b4', a4'.moves b4' hf4, d4, z4, n3, d3]
  exact ans_nats _ _ _ _
theorem Sim.same {B : PBx} {C : RBx} (h : Sim B C) (hi : Inv C) : Same B C := by
 refine ⟨?_, ?_, ?_, ?_, ?_⟩
 . unfold PBx.locksT RBx.locksT
  rw [h.L]
  refine List.map_congr_left (fun s hs => ?_)
  rw [h.lockedBy hi]
 . unfold PBx.phasesT RBx.phasesT
  apply List.ext_getElem
  . simp only [List.length_map]; rw [h.rl, hi.ll]
  . intro r h1 h2
   simp only [List.length_map] at h1 h2
   rw [List.getElem_map, List.getElem_map]
   have hl := (h.lr r (by rw [<- hi.ll]; exact h2)).ph
   have e : B.route r = B.rts[r] := getD_atq h1
   have e' : C.line r = C.lines[r] := getD_atq h2
   rw [e, e'] at hl
   exact hl
 . unfold PBx.switchesT RBx.switchesT
  rw [h.sl]
  refine flatMap_cg (fun s hs => ?_)
  unfold PBx.swT RBx.swT
  rw [h.L]
  by_cases e : C.L.sw.getD s false = true
  . rw [if_pos e, if_pos e]
   obtain ⟨w1, w2, -⟩ := h.sw s hs e
   show [(B.sw s).tell] = _
   unfold PSw.tell
   rw [w1, w2]
  . rw [if_neg e, if_neg e]
 . unfold PBx.stateT RBx.stateT
  rw [h.sta]
 . unfold RBx.queueT
  rw [h.waits, ordStr_nats]
theorem Sim.psm {B : PBx} {C : RBx} (h : Sim B C) (hi : Inv C) : PSm B := by
 have h1 := hi.lay.sw
 have h2 := hi.lay.rl
 have h3 := hi.lay.good.tns
 have h4 := hi.wq
 have h5 := hi.lay.Q
 have hp := h.pgd hi
 refine ⟨by rw [h.L]; omega, by rw [h.rl]; omega, fun x hx => (hp.ok x hx).freed, by rw [h.sl]; omega, by rw [h.sta, hi.st]; omega, fun t ht => ?_, by rw [h.waits]; omega, fun t ht => ?_⟩
 . rw [h.sta] at ht
  have := hi.sta8 t ht
  omega
 . rw [h.waits] at ht
  have := (hi.wt t ht).1
  omega
theorem Inv.rsm {C : RBx} (hi : Inv C) : RSm C := by
 have h1 := hi.lay.sw
 have h2 := hi.lay.rl
 have h3 := hi.lay.good.tns
 have h4 := hi.wq
 have h5 := hi.lay.Q
 refine ⟨by omega, by rw [hi.ll]; exact Nat.le_refl _, by omega, fun x hx => (hi.gone x hx).1, hi.wl, hi.fl, by rw [hi.st]; omega, fun x hx => ?_, by omega, fun x hx => ?_⟩
 . have := hi.sta8 x hx; omega
 . have := (hi.wt x hx).1; omega
theorem init_inv {L : Lay} (h : LayOK L) : Inv (RBx.init L) := by
 have hT := h.T
 have hl : ∀ r, (RBx.init L).line r = RLn0 := fun r => getD_rep _ _ _ _ rfl
 refine ⟨h, by simp [RBx.init], by simp [RBx.init], by simp [RBx.init], by simp [RBx.init], by simp [RBx.init], fun t => ?_, fun s => ?_, fun r hr => ?_, fun r hr hp => ?_, fun r r' hr hr' hp => ?_, Nat.zero_le _, List.nodup_nil, fun t ht => ?_⟩
 . show (List.replicate L.tns.length 0).getD t 0 <= _
  rw [getD_rep _ _ _ _ rfl]; exact Nat.zero_le _
 . show (List.replicate L.sw.length 0).getD s 0 < L.T
  rw [getD_rep _ _ _ _ rfl]; omega
 . rw [hl]; exact ⟨fun _ => rfl, fun hh => by simp [RLn0] at hh, Nat.zero_le _⟩
 . rw [hl] at hp; exact absurd rfl hp
 . rw [hl] at hp; exact absurd rfl hp
 . exact absurd (show t ∈ ([] : List Nat) from ht) (by simp)
theorem init_sim {L : Lay} : Sim (PBx.init L) (RBx.init L) := by
 refine ⟨rfl, by show (L.rts.map PRt.new).length = L.rts.length; simp, fun r hr => ?_, by show (List.replicate L.sw.length PSw.new).length = L.sw.length; simp, fun s hs hs2 => ?_, fun s => ?_, rfl, rfl⟩
 . have hr' : r < L.rts.length := hr
  have e : (PBx.init L).route r = PRt.new (L.rt r) := by
   show (L.rts.map PRt.new).getD r _ = _
   rw [getD_atq (by simpa using hr'), List.getElem_map]
   unfold Lay.rt
   rw [getD_atq hr']
  have e2 : (RBx.init L).line r = RLn0 := getD_rep _ _ _ _ rfl
  rw [e, e2]
  exact ⟨rfl, rfl, fun hh => absurd rfl hh, fun hh => absurd rfl hh, fun hh => absurd rfl hh, fun hh => absurd rfl hh, fun hh => by simp [RLn0] at hh, fun hh => by simp [RLn0] at hh, Nat.zero_le _, Nat.zero_le _, Nat.zero_le _⟩
 . have e : (PBx.init L).sw s = PSw.new := getD_rep _ _ _ _ rfl
  have hs' : s < L.sw.length := hs
  have hs2' : L.sw.getD s false = true := hs2
  rw [e]
  refine ⟨?_, ?_, ?_⟩
  . show 43 = (L.sw.map (fun b => if b then 43 else 0)).getD s 0
   rw [getD_atq (by simpa using hs'), List.getElem_map]
   rw [getD_atq hs'] at hs2'
   rw [hs2']; rfl
  . show false = (List.replicate L.sw.length false).getD s false
   rw [getD_rep _ _ _ _ rfl]
  . show 0 = (List.replicate L.sw.length 0).getD s 0
   rw [getD_rep _ _ _ _ rfl]
 . have e : (PBx.init L).sw s = PSw.new := getD_rep _ _ _ _ rfl
  rw [e]; exact Nat.zero_le _
end Go.Proofs.YtkbpocecbcaiiaaGreatDoor
namespace Go.Proofs.YtkbpocecbcaiiaaGreatDoor
open Go.RowKit
def PairIn (w : World) (E : Nat -> Prop) (gp : Nat) (B : PBx) (C : RBx) : Prop := ∃ gb gc Dp Dc, w.heap[gp]? = some (.cells #[.pointer (some ⟨gb, 0, none⟩), .pointer (some ⟨gc, 0, none⟩)] 105 (0, 0)) ∧
 PBoxIn w Dp gb B /\ RBoxIn w Dc gc C /\ (∀ b, Dp b -> ¬ Dc b) /\ ¬ Dp gp /\ ¬ Dc gp /\ (∀ b, Dp b -> E b) /\ (∀ b, Dc b -> E b) /\ E gp /\ ∀ b, E b -> b < w.heap.size
theorem PairIn.at {w : World} {E : Nat -> Prop} {gp : Nat} {B : PBx} {C : RBx} (h : PairIn w E gp B C) : PairAt w gp B C := by
 obtain ⟨gb, gc, Dp, Dc, hg, hP, hR, -⟩ := h
 exact ⟨gb, gc, hg, hP.at, hR.at⟩
theorem PairIn.only {w w' : World} {E F : Nat -> Prop} {gp : Nat} {B : PBx} {C : RBx} (h : PairIn w E gp B C) (ho : Only F w w') (hd : ∀ b, E b -> ¬ F b) : PairIn w' E gp B C := by
 obtain ⟨gb, gc, Dp, Dc, hg, hP, hR, d1, d2, d3, d4, d5, d6, d7⟩ := h
 exact ⟨gb, gc, Dp, Dc, (ho.block gp (blk_lt hg) (hd gp d6)).trans hg, hP.only ho (fun b hb => hd b (d4 b hb)), hR.only ho (fun b hb => hd b (d5 b hb)), d1, d2, d3, d4, d5, d6, fun b hb => Nat.lt_of_lt_of_le (d7 b hb) ho.size⟩
theorem PairIn.below {w w' : World} {E : Nat -> Prop} {gp : Nat} {B : PBx} {C : RBx} (h : PairIn w E gp B C) (hb : Below w.heap.size w w') : PairIn w' E gp B C :=
 h.only (F := fun _ => False) (Only.of_below hb) (fun _ _ h => h)
theorem PairIn.mono {w : World} {E E' : Nat -> Prop} {gp : Nat} {B : PBx} {C : RBx} (h : PairIn w E gp B C) (hd : ∀ b, E b -> E' b) (hz : ∀ b, E' b -> b < w.heap.size) : PairIn w E' gp B C := by
 obtain ⟨gb, gc, Dp, Dc, hg, hP, hR, d1, d2, d3, d4, d5, d6, d7⟩ := h
 exact ⟨gb, gc, Dp, Dc, hg, hP, hR, d1, d2, d3, fun b hb => hd b (d4 b hb), fun b hb => hd b (d5 b hb), hd gp d6, hz⟩
set_option maxHeartbeats 1000000 in
theorem made_in (s : ByteArray) (w : World) :
  Calls Tryz.prog 23 #[.string s] w fun e w' =>
   (((errOf s.data.toList).1 ≠ 0 /\ e = .returned (.tuple #[.pointer none, .bool true])) ∨
   ((errOf s.data.toList).1 = 0 /\ ∃ gp, e = .returned (.tuple #[.pointer (some ⟨gp, 0, none⟩), .bool true]) /\ PairIn w' (fun b => w.heap.size <= b /\ b < w'.heap.size) gp (PBx.init (layOf s.data.toList)) (RBx.init (layOf s.data.toList)))) /\ Below w.heap.size w w' := by
 have hF := (load_eq s).1
 have H1 := hide (pNew_of s (loadOf s) (layL s).2.2 w.heap.size w (Nat.le_refl _) ((load_lo s w (read_paths s)).mono (fun e w' ⟨v, h1, h2, h3, h4⟩ => ⟨v, h1, h2, fun h => ⟨_, LayIn.far (h3 h).1, fun _ hk => hk.1⟩, h4⟩)) (fun h => by
  rw [hF] at h
  obtain ⟨e1, e2⟩ := lay_same s h
  rw [e1]; exact big_small e2))
 have H2 := hide (fun (wz : World) => rNew_lo s wz form_ok)
 have HLS := hide (lay_same s)
 rw [hF] at H1
 generalize (layL s).2.2 = L1 at *
 generalize layOf s.data.toList = L at *
 generalize (errOf s.data.toList).1 = E at *
 clear hF
 go_enter Tryz.func23, Tryz.ntmps23
 go_wp2_with fail
 refine (uh H1).mono ?_
 rintro e w1 ⟨hcase, hb1⟩
 have HB1 := hide hb1
 clear hb1
 by_cases h0 : E = 0
 . have H0 := hide h0
  have hL1 := (uh HLS h0).1
  subst hL1
  rcases hcase with ⟨hx, -⟩ | ⟨-, gb, rfl, hgb, hPB⟩
  . exact absurd h0 hx
  have HPB := hide hPB
  clear hPB
  go_wp2_with fail
  refine (uh H2 w1).mono ?_
  rintro e w2 ⟨hcase, hb2⟩
  rcases hcase with ⟨hx, -⟩ | ⟨-, gc, rfl, hgc, -, hRB⟩
  . exact absurd h0 hx
  obtain ⟨z, hz⟩ : ∃ z, z = w2.heap.size := ⟨_, rfl⟩
  have HZ := hide hz
  have HRB := hide (show RBoxIn w2 (fun b => w1.heap.size <= b /\ b < z) gc (RBx.init L1) by rw [hz]; exact new_in hRB)
  have HPB2 := hide ((uh HPB).only (F := fun _ => False) (Only.of_below hb2) (fun _ _ h => h))
  have HZ2 := hide hb2.size
  have HB2 := hide ((uh HB1).trans (hb2.mono (uh HB1).size))
  clear hRB hb2 h0 hz
  go_wp2_with (go_at_call 59; refine (num_any 0 _).mono ?_; rintro e w' ⟨rfl, rfl⟩)
  go_ret2
  have z1 := (uh HB1).size
  have z2 := uh HZ2
  have z3 := uh HZ
  refine ⟨.inr ⟨uh H0, _, rfl, gb, gc, fun b => w.heap.size <= b /\ b < w1.heap.size, fun b => w1.heap.size <= b /\ b < z, heap_alloc_new _ _, (uh HPB2).only (F := fun _ => False) (Only.of_below (below_alloc _ _)) (fun _ _ h => h), (uh HRB).only (F := fun _ => False) (Only.of_below (below_alloc _ _)) (fun _ _ h => h), ?_, ?_, ?_, ?_, ?_, ?_, fun b hb => hb.2⟩, (uh HB2).alloc (uh HB2).size _⟩
  . intro b h1 h2; omega
  . intro h1; omega
  . intro h1; omega
  . intro b h1; refine ⟨h1.1, ?_⟩; simp; omega
  . intro b h1; refine ⟨by omega, ?_⟩; simp; omega
  . exact ⟨by omega, by simp⟩
 . have H0 := hide h0
  rcases hcase with ⟨-, rfl⟩ | ⟨hx, -⟩
  rotate_left
  . exact absurd hx h0
  go_wp2_with fail
  refine (uh H2 w1).mono ?_
  rintro e w2 ⟨hcase, hb2⟩
  rcases hcase with ⟨-, rfl⟩ | ⟨hx, -⟩
  rotate_left
  . exact absurd hx h0
  have HB2 := hide ((uh HB1).trans (hb2.mono (uh HB1).size))
  clear hb2 h0
  go_wp2_with (go_at_call 59; refine (num_any (E : Nat) _).mono ?_; rintro e w' ⟨rfl, rfl⟩)
  go_ret2
  exact ⟨.inl ⟨uh H0, rfl⟩, uh HB2⟩
set_option maxHeartbeats 1000000 in
theorem cycle_pair (E : Nat -> Prop) (gp : Nat) (B : PBx) (C : RBx) (s : ByteArray) (k : Int) (w : World) (h : PairIn w E gp B C) (hs : Sim B C) (hi : Inv C) (hk : k = 1 \/ k = 2 \/ k = 3 \/ k = 4) :
  Calls Tryz.prog 24 #[.pointer (some ⟨gp, 0, none⟩), .string s, .int .i64 k] w fun e w' => e = .returned (.bool true) /\ PairIn w' (grow E w w') gp (B.cyc s) (C.cyc s) /\ Only E w w' := by
 obtain ⟨gb, gc, Dp, Dc, hg, hP, hR, d1, d2, d3, d4, d5, d6, d7⟩ := h
 obtain ⟨k1, k2, -, -, -, ka⟩ := hs.cyc hi s
 have hsw := hi.lay.sw
 have H1 := hide (pCycle_any Dp gb B s w hP k1)
 have H2 := hide (fun (wz : World) (hz : RBoxIn wz Dc gc C) => rCycle_any Dc gc C s wz hz (by omega) k2)
 rw [ka] at H1
 have HDP := hide hP.lt
 have HDC := hide hR.lt
 have HD := hide (And.intro d1 (And.intro d2 (And.intro d3 (And.intro d4 (And.intro d5 (And.intro d6 d7))))))
 have HR := hide hR
 generalize C.ans s = t at *
 generalize C.cyc s = C' at *
 generalize B.cyc s = B' at *
 obtain ⟨⟨c0, c1⟩, -, q⟩ := duo0 hg
 have HG := hide hg
 clear k1 k2 ka hs hi hP hR d1 d2 d3 d4 d5 d6 d7 hg hsw
 go_enter Tryz.func24, Tryz.ntmps24
 go_wp2_with fail
 refine (uh H1).mono ?_
 rintro e w1 ⟨rfl, hP1, ho1⟩
 have HP1 := hide hP1
 have HO1 := hide ho1
 have hg1 := (ho1.block gp (blk_lt (uh HG)) (uh HD).2.1).trans (uh HG)
 have hR1 := (uh HR).only ho1 (fun b hb hc => (uh HD).1 b hc hb)
 have HR1 := hide hR1
 have HG1 := hide hg1
 clear c0 c1 q hP1 ho1 hR1
 obtain ⟨⟨c0, c1⟩, -, q⟩ := duo0 hg1
 clear hg1
 go_wp2_with fail
 refine (uh H2 w1 (uh HR1)).mono ?_
 rintro e w2 ⟨rfl, hR2, ho2⟩
 have z1 := (uh HO1).size
 have z2 := ho2.size
 obtain ⟨e1, e2, e3, e4, e5, e6, e7⟩ := uh HD
 have hsz : gp < w.heap.size := e7 gp e6
 have hP2 := (uh HP1).only ho2 (fun b hb hc => by
  rcases hb with hb | hb
  . exact e1 b hb hc
  . have := e7 b (e5 b hc); omega)
 have hg2 := (ho2.block gp (by omega) e3).trans (uh HG1)
 have hO : Only E w w2 := ((uh HO1).mono e4).trans (ho2.mono e5)
 have HQ := hide (show PairIn w2 (grow E w w2) gp B' C' from
  ⟨gb, gc, grow Dp w w1, growR Dc w1 w2, hg2, hP2, hR2, fun b hb hc => by
   rcases hb with hb | hb <;> rcases hc with hc | hc
   . exact e1 b hb hc
   . have := e7 b (e4 b hb); omega
   . have := e7 b (e5 b hc); omega
   . omega, fun hb => by
   rcases hb with hb | hb
   . exact e2 hb
   . omega, fun hb => by
   rcases hb with hb | hb
   . exact e3 hb
   . omega, fun b hb => by
   rcases hb with hb | hb
   . exact Or.inl (e4 b hb)
   . exact Or.inr ⟨hb.1, by omega⟩, fun b hb => by
   rcases hb with hb | hb
   . exact Or.inl (e5 b hb)
   . exact Or.inr ⟨by omega, hb.2⟩, Or.inl e6, fun b hb => by
   rcases hb with hb | hb
   . have := e7 b hb; omega
   . exact hb.2⟩)
 have HO := hide hO
 clear c0 c1 q e1 e2 e3 e4 e5 e6 e7 hP2 hg2 hO hR2 ho2
 rcases hk with rfl | rfl | rfl | rfl
 all_goals
  go_wp2
  go_ret
  exact ⟨by simp, uh HQ, uh HO⟩
set_option maxHeartbeats 1000000 in
theorem looks_k (gp : Nat) (B : PBx) (C : RBx) (k : Int) (w : World) (h : PairAt w gp B C) (hp : PSm B) (hr : RSm C) (hs : Same B C) (hk : k = 1 \/ k = 2 \/ k = 3 \/ k = 4) :
  Calls Tryz.prog 14 #[.pointer (some ⟨gp, 0, none⟩), .int .i64 k] w fun e w' => e = .returned (.bool true) /\ Below w.heap.size w w' := by
 have H1 := hide (locked_true gp B C w h hp hr hs)
 have H2 := hide (lies_true gp B C w h hp hr hs)
 have H3 := hide (queued_true gp B C w h hp hr hs)
 clear hp hr hs h
 rcases hk with rfl | rfl | rfl | rfl
 . clear H1 H2 H3
  go_enter Tryz.func14, Tryz.ntmps14
  go_wp2
  go_ret
  exact ⟨rfl, Below.refl _ _⟩
 . clear H2 H3
  go_enter Tryz.func14, Tryz.ntmps14
  go_wp2_with fail
  refine (uh H1).mono ?_
  rintro e w1 ⟨rfl, hb1⟩
  have HB1 := hide hb1
  clear hb1
  go_wp2
  go_ret
  exact ⟨rfl, uh HB1⟩
 . clear H1 H3
  go_enter Tryz.func14, Tryz.ntmps14
  go_wp2_with fail
  refine (uh H2).mono ?_
  rintro e w1 ⟨rfl, hb1⟩
  have HB1 := hide hb1
  clear hb1
  go_wp2
  go_ret
  exact ⟨rfl, uh HB1⟩
 . clear H1 H2
  go_enter Tryz.func14, Tryz.ntmps14
  go_wp2_with fail
  refine (uh H3).mono ?_
  rintro e w1 ⟨rfl, hb1⟩
  have HB1 := hide hb1
  clear hb1
  go_wp2
  go_ret
  exact ⟨rfl, uh HB1⟩
end Go.Proofs.YtkbpocecbcaiiaaGreatDoor
