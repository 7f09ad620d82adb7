import Derived.Test.YtkbpocecbcaiiaaGreatDoorJ48
namespace Go.Proofs.YtkbpocecbcaiiaaGreatDoor
open Go.RowKit
theorem rwantN_w (C : RBx) (l : List Nat) (r : Nat) : ∀ k, ({ C with waits := l } : RBx).wantN r k = { C.wantN r k with waits := l }
 | 0 => rfl
 | k + 1 => by
  show (({ C with waits := l } : RBx).wantN r k).wantK r k = { (C.wantN r k).wantK r k with waits := l }
  rw [rwantN_w C l r k]
  unfold RBx.wantK
  simp only
  split <;> rfl
theorem pwantN_w (B : PBx) (q : List Nat) (l : List (Nat × Nat)) : ∀ k, ({ B with waits := q } : PBx).wantN l k = { B.wantN l k with waits := q }
 | 0 => rfl
 | k + 1 => by
  show (({ B with waits := q } : PBx).wantN l k).want1 (l.getD k (0, 0)) = { (B.wantN l k).want1 (l.getD k (0, 0)) with waits := q }
  rw [pwantN_w B q l k]
  unfold PBx.want1
  simp only
  split <;> rfl
theorem rgiven_w (C : RBx) (l q : List Nat) (r t : Nat) : ({ ({ C with waits := l } : RBx).given r t with waits := q } : RBx) = { C.given r t with waits := q } := by
 show ({ ((({ { C with sta := C.more t } with waits := l } : RBx).wantN r C.L.sw.length).put r (RLnW t)) with waits := q } : RBx) = { ((({ C with sta := C.more t } : RBx).wantN r C.L.sw.length).put r (RLnW t)) with waits := q }
 rw [rwantN_w]
 rfl
theorem pgiven_w (B : PBx) (l q : List Nat) (r t : Nat) : ({ ({ B with waits := l } : PBx).given r t with waits := q } : PBx) = { B.given r t with waits := q } := by
 show ({ (({ ({ B with sta := oneM B.sta t }.putR r ((B.route r).set t)) with waits := l } : PBx).wantN (swsOf (B.route r).rt) (swsOf (B.route r).rt).length) with waits := q } : PBx) = { (({ B with sta := oneM B.sta t }.putR r ((B.route r).set t)).wantN (swsOf (B.route r).rt) (swsOf (B.route r).rt).length) with waits := q }
 rw [pwantN_w]
theorem given_L (C : RBx) (r t : Nat) (hl : C.wanted.length = C.L.sw.length) : (C.given r t).L = C.L :=
 (rwant_get { C with sta := C.more t } r C.L.sw.length (by show _ <= C.wanted.length; rw [hl]; exact Nat.le_refl _)).2.2.1
theorem Sim.grantN {B : PBx} {C : RBx} {pf : PFr} {f : Fr} (h : Sim B C) (hi : Inv C) (hf : FrS pf f C.L) : ∀ k, k <= C.waits.length →
  Sim { B.grantN pf k with waits := C.leftN f k ++ C.waits.drop k } { C.grantN f k with waits := C.leftN f k ++ C.waits.drop k } /\ Inv { C.grantN f k with waits := C.leftN f k ++ C.waits.drop k } ∧
  (C.grantN f k).L = C.L /\ B.servN pf k = C.servN f k /\ B.leftN pf k = C.leftN f k /\ (∀ t, t ∈ C.servN f k -> t ∈ C.waits) /\ (C.servN f k).length <= k
 | 0, _ => by
  refine ⟨?_, ?_, rfl, rfl, rfl, fun t ht => by simp [RBx.servN] at ht, Nat.le_refl _⟩
  ·show Sim { B with waits := [] ++ C.waits.drop 0 } { C with waits := [] ++ C.waits.drop 0 }
   rw [List.drop_zero, List.nil_append]
   rw [<- h.waits]
   have e : ({ C with waits := B.waits } : RBx) = C := by rw [h.waits]
   rw [e]
   exact h
  ·show Inv { C with waits := [] ++ C.waits.drop 0 }
   rw [List.drop_zero, List.nil_append]
   exact hi
 | k + 1, hk => by
  obtain ⟨a, b, c, d, e, g, j⟩ := Sim.grantN h hi hf k (by omega)
  have hk' : k < C.waits.length := by omega
  have ed : C.waits.drop k = C.waits[k] :: C.waits.drop (k + 1) := List.drop_eq_getElem_cons hk'
  have et : C.waits.getD k 0 = C.waits[k] := z12 hk'
  have hf' : FrS pf f (C.grantN f k).L := by rw [c]; exact hf
  obtain ⟨Bk, hBk⟩ : ∃ X, X = B.grantN pf k := ⟨_, rfl⟩
  obtain ⟨Ck, hCk⟩ : ∃ X, X = C.grantN f k := ⟨_, rfl⟩
  obtain ⟨t, htt⟩ : ∃ t, t = C.waits[k] := ⟨_, rfl⟩
  rw [<- hBk, <- hCk] at a
  rw [<- hCk] at b c hf'
  have hmem : t ∈ C.leftN f k ++ C.waits.drop k := by rw [ed, <- htt]; simp
  obtain ⟨ht, hj⟩ := b.wt t hmem
  have hgB := a.grantB b hf' (t := t) ht hj
  obtain ⟨hr, hn, hg⟩ := hgB
  have hg' : Bk.grantB pf t = Ck.grantB f t := hg
  have hn' : Bk.nextR t = some (Ck.nxt t) := hn
  have eS : B.servN pf (k + 1) = if Bk.grantB pf t then B.servN pf k ++ [t] else B.servN pf k := by
   show (if (B.grantN pf k).grantB pf (B.waits.getD k 0) then B.servN pf k ++ [B.waits.getD k 0] else B.servN pf k) = _
   rw [h.waits, et, <- htt, <- hBk]
  have eL : B.leftN pf (k + 1) = if Bk.grantB pf t then B.leftN pf k else B.leftN pf k ++ [t] := by
   show (if (B.grantN pf k).grantB pf (B.waits.getD k 0) then B.leftN pf k else B.leftN pf k ++ [B.waits.getD k 0]) = _
   rw [h.waits, et, <- htt, <- hBk]
  have eG : B.grantN pf (k + 1) = Bk.grant pf t := by
   show (B.grantN pf k).grant pf (B.waits.getD k 0) = _
   rw [h.waits, et, <- htt, <- hBk]
  have fS : C.servN f (k + 1) = if Ck.grantB f t then C.servN f k ++ [t] else C.servN f k := by
   show (if (C.grantN f k).grantB f (C.waits.getD k 0) then C.servN f k ++ [C.waits.getD k 0] else C.servN f k) = _
   rw [et, <- htt, <- hCk]
  have fL : C.leftN f (k + 1) = if Ck.grantB f t then C.leftN f k else C.leftN f k ++ [t] := by
   show (if (C.grantN f k).grantB f (C.waits.getD k 0) then C.leftN f k else C.leftN f k ++ [C.waits.getD k 0]) = _
   rw [et, <- htt, <- hCk]
  have fG : C.grantN f (k + 1) = Ck.grant f t := by
   show (C.grantN f k).grant f (C.waits.getD k 0) = _
   rw [et, <- htt, <- hCk]
  have gP : Bk.grant pf t = if Bk.grantB pf t then Bk.given (Ck.nxt t) t else Bk := by
   unfold PBx.grant PBx.grantB
   rw [hn']
  have gC : Ck.grant f t = if Ck.grantB f t then Ck.given (Ck.nxt t) t else Ck := rfl
  have hmt : t ∈ C.waits := by rw [htt]; exact List.getElem_mem hk'
  rw [eS, eL, eG, fS, fL, fG, gP, gC, hg', d, e]
  by_cases hq : Ck.grantB f t = true
  ·simp only [if_pos hq]
   have hw : ({ Ck with waits := C.leftN f k ++ C.waits.drop k } : RBx).waits = C.leftN f k ++ t :: C.waits.drop (k + 1) := by
    show C.leftN f k ++ C.waits.drop k = _
    rw [ed, <- htt]
   have hsg := a.given b hf' hw hq
   have e1 := rgiven_w Ck (C.leftN f k ++ C.waits.drop k) (C.leftN f k ++ C.waits.drop (k + 1)) (Ck.nxt t) t
   have e2 := pgiven_w Bk (C.leftN f k ++ C.waits.drop k) (C.leftN f k ++ C.waits.drop (k + 1)) (Ck.nxt t) t
   have hsg1 : Sim { ({ Bk with waits := C.leftN f k ++ C.waits.drop k } : PBx).given (Ck.nxt t) t with waits := C.leftN f k ++ C.waits.drop (k + 1) } { ({ Ck with waits := C.leftN f k ++ C.waits.drop k } : RBx).given (Ck.nxt t) t with waits := C.leftN f k ++ C.waits.drop (k + 1) } := hsg.1
   have hsg2 : Inv { ({ Ck with waits := C.leftN f k ++ C.waits.drop k } : RBx).given (Ck.nxt t) t with waits := C.leftN f k ++ C.waits.drop (k + 1) } := hsg.2
   rw [e1] at hsg1 hsg2
   rw [e2] at hsg1
   refine ⟨hsg1, hsg2, (given_L Ck _ _ b.wl).trans c, by trivial, by trivial, ?_, ?_⟩
   ·intro t' ht'
    rcases List.mem_append.1 ht' with hm | hm
    ·exact g t' hm
    ·rw [List.mem_singleton] at hm; rw [hm]; exact hmt
   ·simp only [List.length_append, List.length_cons, List.length_nil]; omega
  ·simp only [if_neg hq]
   have ew : C.leftN f k ++ [t] ++ C.waits.drop (k + 1) = C.leftN f k ++ C.waits.drop k := by
    rw [ed, <- htt, List.append_assoc]; rfl
   rw [ew]
   exact ⟨a, b, c, by trivial, by trivial, g, by omega⟩
theorem Sim.grants {B : PBx} {C : RBx} {pf : PFr} {f : Fr} (h : Sim B C) (hi : Inv C) (hf : FrS pf f C.L) :
  Sim (B.grants pf) (C.grants f) /\ Inv (C.grants f) /\ (C.grants f).L = C.L /\ B.servN pf B.waits.length = C.servN f C.waits.length /\ (∀ t, t ∈ C.servN f C.waits.length -> t ∈ C.waits) /\ (C.servN f C.waits.length).length <= C.waits.length := by
 obtain ⟨a, b, c, d, e, g, j⟩ := h.grantN hi hf C.waits.length (Nat.le_refl _)
 rw [List.drop_length, List.append_nil] at a b
 unfold PBx.grants RBx.grants
 rw [h.waits, e]
 exact ⟨a, b, c, d, g, j⟩
theorem Inv.gone {C : RBx} (h : Inv C) : ∀ x, x ∈ C.lines -> x.gone <= 1000 /\ x.count <= 1000 := by
 intro x hx
 obtain ⟨r, hr, rfl⟩ := List.mem_iff_getElem.1 hx
 have hr' : r < C.L.rts.length := by rw [<- h.ll]; exact hr
 have e : C.line r = C.lines[r] := z12 hr
 have hli := h.li r hr'
 have hp := (h.rt hr').pl
 rw [e] at hli
 refine ⟨?_, hli.ct⟩
 by_cases h1 : C.lines[r].ph = 116
 ·have := (hli.ps h1).2; omega
 ·rw [hli.g0 h1]; omega
theorem mem_getDn {l : List Nat} {x : Nat} (h : x ∈ l) : ∃ i, i < l.length /\ l.getD i 0 = x := by
 obtain ⟨i, hi, rfl⟩ := List.mem_iff_getElem.1 h
 exact ⟨i, hi, z12 hi⟩
theorem Inv.sta8 {C : RBx} (h : Inv C) : ∀ x, x ∈ C.sta -> x <= 8 := by
 intro x hx
 obtain ⟨t, ht, rfl⟩ := mem_getDn hx
 have := h.sj t
 have ht' : t < C.L.tns.length := by rw [<- h.st]; exact ht
 have hm : C.L.tn t ∈ C.L.tns := by
  unfold Lay.tn
  rw [z12 ht']
  exact List.getElem_mem ht'
 have := h.lay.good.jl _ hm
 omega
theorem Inv.sta8g {C : RBx} (h : Inv C) (t : Nat) : C.sta.getD t 0 <= 8 := by
 by_cases ht : t < C.sta.length
 ·exact h.sta8 _ (by rw [z12 ht]; exact List.getElem_mem ht)
 ·rw [List.getD_eq_getElem?_getD, List.getElem?_eq_none (by omega)]
  exact Nat.zero_le _
theorem Inv.watchOK {C : RBx} {pf : PFr} {f : Fr} (h : Inv C) (hf : FrS pf f C.L) : WatchOK C f := by
 have h1 := h.lay.sw
 have h2 := h.lay.rl
 have h3 := h.lay.T
 refine ⟨by omega, h.wl, h.fl, h.dl, hf.pl, by rw [h.ll]; exact Nat.le_refl _, by omega, fun x hx => (h.gone x hx).1, fun x hx => ?_⟩
 obtain ⟨s, -, rfl⟩ := mem_getDn hx
 have := h.late s
 omega
theorem Inv.stepOK {C : RBx} {pf : PFr} {f : Fr} (h : Inv C) (hf : FrS pf f C.L) {r : Nat} (hr : r < C.L.rts.length) : StepOK C f r := by
 have h1 := h.lay.sw
 have h2 := h.lay.rl
 have ho := h.rt hr
 have hp := ho.pl
 have hli := h.li r hr
 refine ⟨by rw [h.ll]; exact Nat.le_refl _, by omega, by omega, hf.ol, hf.pl, h.fl, ?_, ?_, ?_, by rw [hf.ol]; exact ho.foot, ?_, ?_, hli.ct⟩
 ·unfold RBx.pth secs
  intro e
  exact ho.ne (List.map_eq_nil_iff.1 e)
 ·unfold RBx.pth
  rw [z1m]; omega
 ·intro s hs
  unfold RBx.pth secs at hs
  obtain ⟨x, hx, rfl⟩ := List.mem_map.1 hs
  rw [hf.ol]
  exact (ho.ps x hx).1
 ·intro hp
  have e : (C.pth r).length = (C.L.rt r).path.length := z1m _
  rw [e]
  exact hli.ps hp
 ·intro hp
  obtain ⟨x, y⟩ := h.tr r hr (by omega)
  refine ⟨by rw [h.st]; exact x, y, ?_⟩
  have := h.sta8g (C.line r).train
  omega
theorem Inv.doOK {C : RBx} {pf : PFr} {f : Fr} (h : Inv C) (hf : FrS pf f C.L) : DoOK C f := by
 have := h.wq
 have := h.lay.Q
 exact ⟨h.ll, h.st, h.fl, by omega, fun r hr => by rw [hf.ol]; exact (h.rt hr).foot⟩
theorem Inv.grantOK {C : RBx} {q : List Nat} {pf : PFr} {f : Fr} (h : Inv { C with waits := q }) (hf : FrS pf f C.L) {t : Nat} (ht : t ∈ q) : GrantOK C f t := by
 obtain ⟨a, b⟩ := h.wt t ht
 have h1 : C.L.sw.length <= 16 := h.lay.sw
 have h2 : C.L.rts.length <= 12 := h.lay.rl
 have h3 : C.L.tns.length <= 5 := h.lay.good.tns
 have h4 : C.sta.getD t 0 <= 8 := h.sta8g t
 exact ⟨h.lay.good.paths, h.lay.good.jnys, by omega, h.ll, by omega, by omega, hf.ol, h.fl, h.wl, fun x hx => (h.gone x hx).1, h.st, a, b, by omega⟩
theorem Sim.pgd {B : PBx} {C : RBx} (h : Sim B C) (hi : Inv C) : PGd B := by
 have h2 := hi.lay.rl
 refine ⟨by rw [h.L]; exact hi.lay.good, by rw [h.rl]; omega, ?_, by rw [h.sta, h.L]; exact hi.st, ?_⟩
 ·intro y hy
  obtain ⟨r, hr, rfl⟩ := List.mem_iff_getElem.1 hy
  have hr' : r < C.L.rts.length := by rw [<- h.rl]; exact hr
  have e : B.route r = B.rts[r] := z12 hr
  have hl := h.lr r hr'
  rw [e] at hl
  have ho := hi.rt hr'
  have := ho.pl
  have := ho.fl
  exact ⟨by rw [hl.rt]; omega, by rw [hl.rt]; omega, hl.mb, hl.fb, hl.cb⟩
 ·intro x hx
  rw [h.sta] at hx
  have := hi.sta8 x hx
  omega
theorem pstepN_route (B : PBx) (f : PFr) (r : Nat) : ∀ k, k <= r -> (B.stepN f k).route r = B.route r
 | 0, _ => rfl
 | k + 1, hk => by
  have ih := pstepN_route B f r k (by omega)
  show ((B.stepN f k).step1 f k).route r = _
  rw [<- ih]
  unfold PBx.step1
  have hp : ∀ (X : PBx) (y : PRt), (X.putR k y).route r = X.route r := fun X y => z2b _ _ _ _ _ (by omega)
  split
  ·exact hp _ _
  ·exact hp _ _
theorem pk_at (t : ByteArray) (i : Nat) (h : i < t.size) : pk t i = t[i].toNat := by
 unfold pk
 rw [z12 (by simpa using h)]
 rfl
theorem pk_ext (s : ByteArray) (b i : Nat) (h : b + i < s.size) : pk (s.extract b s.size) i = pk s (b + i) := by
 have h' : i < (s.extract b s.size).size := by rw [z3l]; omega
 rw [pk_at _ _ h', pk_drop s b i h h']
theorem frS_of (L : Lay) (s : ByteArray) : FrS (L.pfrOf s) (L.frOf s) L := ⟨rfl, rfl, by simp [Lay.frOf], by simp [Lay.frOf]⟩
theorem frame_parts (L : Lay) (s : ByteArray) (h : L.frameB s = true) : s.size <= 64 /\ (s.size - L.bgn) % 2 = 0 /\ (L.frOf s).cmds.size = s.size - L.bgn /\ (L.pfrOf s).cmds.length = (s.size - L.bgn) / 2 ∧
  ∀ j, j < (s.size - L.bgn) / 2 -> L.cmdB (pk (L.frOf s).cmds (2 * j)) (pk (L.frOf s).cmds (2 * j + 1)) = true /\ (L.pfrOf s).cmds.getD j (0, 0) = (pk (L.frOf s).cmds (2 * j), pk (L.frOf s).cmds (2 * j + 1) - cbase (pk (L.frOf s).cmds (2 * j))) := by
 unfold Lay.frameB Lay.okC at h
 simp only [Bool.and_eq_true, decide_eq_true_eq, List.all_eq_true, List.mem_range] at h
 obtain ⟨⟨h1, -⟩, h2, h3⟩ := h
 have el : (L.pfrOf s).cmds.length = (s.size - L.bgn) / 2 := by
  show (L.cmdsL s _).length = _
  unfold Lay.cmdsL
  simp
 refine ⟨h1, h2, z3l s L.bgn, el, fun j hj => ?_⟩
 have e1 : pk (L.frOf s).cmds (2 * j) = pk s (L.bgn + 2 * j) := pk_ext s L.bgn (2 * j) (by omega)
 have e2 : pk (L.frOf s).cmds (2 * j + 1) = pk s (L.bgn + 2 * j + 1) := by
  have := pk_ext s L.bgn (2 * j + 1) (by omega)
  rw [<- Nat.add_assoc] at this
  exact this
 rw [e1, e2]
 refine ⟨h3 j hj, ?_⟩
 have ec : (L.pfrOf s).cmds = (List.range ((s.size - L.bgn) / 2)).map (L.cmdF s) := rfl
 rw [ec, z12 (by simpa using hj), List.getElem_map, List.getElem_range]
 rfl
theorem ordStr_nats (o : List Nat) : z1r o = z09 (o.map (49 + ·)) := by
 unfold z1r z09
 rw [List.map_map]
 rfl
theorem ans_nats (a b c : List Nat) (o : List Nat) : ansS (z09 a) (z09 b) (z09 c) (z1r o) = z09 (ansL a b c (o.map (49 + ·))) := by
 unfold ansS ansL
 rw [ordStr_nats, z1f, z1f, z1f, z1f, z1f, z1f, z1f]
 rfl
theorem flatMap_cg {p q : Nat -> List Nat} {n : Nat} (h : ∀ s, s < n -> p s = q s) : (List.range n).flatMap p = (List.range n).flatMap q := by
 rw [List.flatMap_def, List.flatMap_def]
 congr 1
 refine List.map_congr_left (fun s hs => h s (List.mem_range.1 hs))
theorem Sim.lamps {B : PBx} {C : RBx} (h : Sim B C) (hi : Inv C) : B.lampsT = C.lampsT := by
 unfold PBx.lampsT RBx.lampsT
 apply List.ext_getElem
 ·simp only [List.length_map]; rw [h.rl, hi.ll]
 ·intro r h1 h2
  simp only [List.length_map] at h1 h2
  rw [List.getElem_map, List.getElem_map]
  have hl := (h.lr r (by rw [<- hi.ll]; exact h2)).ph
  have e : B.route r = B.rts[r] := z12 h1
  have e' : C.line r = C.lines[r] := z12 h2
  rw [e, e'] at hl
  unfold lampC rlampC
  rw [hl]
theorem Sim.moves {B : PBx} {C : RBx} {pf : PFr} {f : Fr} (h : Sim B C) (hi : Inv C) (hf : FrS pf f C.L) : B.movesT pf = C.movesT f := by
 unfold PBx.movesT RBx.movesT
 rw [h.sl]
 refine flatMap_cg (fun s hs => ?_)
 unfold PBx.moveT RBx.moveT
 rw [h.L]
 by_cases e : C.L.sw.getD s false = true
 ·rw [if_pos e, if_pos e, h.move hi hf hs e]
 ·rw [if_neg e, if_neg e]
theorem Sim.cyc {B : PBx} {C : RBx} (h : Sim B C) (hi : Inv C) (s : ByteArray) :
  (B.L.frameB s = true -> CycOK B (B.L.pfrOf s)) /\ (C.L.frameB s = true -> RCyc C (C.L.frOf s)) /\ Sim (B.cyc s) (C.cyc s) /\ Inv (C.cyc s) /\ (C.cyc s).L = C.L /\ B.ans s = C.ans s := by
 unfold PBx.cyc RBx.cyc PBx.ans RBx.ans
 rw [h.L]
 by_cases hfb : C.L.frameB s = true
 case neg =>
  have hff : C.L.frameB s = false := by simpa using hfb
  rw [hff]
  exact ⟨fun hh => by simp at hh, fun hh => by simp at hh, h, hi, rfl, rfl⟩
 have hf := frS_of C.L s
 obtain ⟨z1, z2, z3, z4, z5⟩ := frame_parts C.L s hfb
 generalize C.L.pfrOf s = pf at *
 generalize C.L.frOf s = f at *
 -- the stages
 obtain ⟨a1, b1, c1⟩ := h.watchN hi hf C.L.sw.length (Nat.le_refl _)
 have a1' : Sim (B.s1 pf) (C.s1 f) := by unfold PBx.s1 RBx.s1 RBx.watch; rw [h.sl]; exact a1
 have b1' : Inv (C.s1 f) := b1
 have c1' : (C.s1 f).L = C.L := c1
 have hf1 : FrS pf f (C.s1 f).L := by rw [c1']; exact hf
 have hs2 := fun k hk => a1'.stepN b1' hf1 k hk
 obtain ⟨a2, b2, c2⟩ := hs2 (C.s1 f).L.rts.length (Nat.le_refl _)
 have a2' : Sim (B.s2 pf) (C.s2 f) := by unfold PBx.s2 RBx.s2; rw [a1'.rl, b1'.ll]; exact a2
 have b2' : Inv (C.s2 f) := by unfold RBx.s2; rw [b1'.ll]; exact b2
 have c2' : (C.s2 f).L = C.L := by unfold RBx.s2; rw [b1'.ll]; exact c2.trans c1'
 have hf2 : FrS pf f (C.s2 f).L := by rw [c2']; exact hf
 have hs3 := a2'.doN b2' hf2 ((s.size - C.L.bgn) / 2) (by rw [c2']; exact z5)
 obtain ⟨a3, b3, c3, d3⟩ := hs3 ((s.size - C.L.bgn) / 2) (Nat.le_refl _)
 have n3 : f.cmds.size / 2 = (s.size - C.L.bgn) / 2 := by rw [z3]
 have a3' : Sim (B.s3 pf) (C.s3 f) := by unfold PBx.s3 RBx.s3; rw [z4, n3]; exact a3
 have b3' : Inv (C.s3 f) := by unfold RBx.s3; rw [n3]; exact b3
 have c3' : (C.s3 f).L = C.L := by unfold RBx.s3; rw [n3]; exact c3.trans c2'
 have hf3 : FrS pf f (C.s3 f).L := by rw [c3']; exact hf
 obtain ⟨a4, b4, c4, d4, e4, g4⟩ := a3'.grants b3' hf3
 have a4' : Sim (B.s4 pf) (C.s4 f) := a4
 have b4' : Inv (C.s4 f) := b4
 have c4' : (C.s4 f).L = C.L := c4.trans c3'
 have hf4 : FrS pf f (C.s4 f).L := by rw [c4']; exact hf
 have q2 := b2'.wq
 have q2' := b2'.lay.Q
 have q3 := b3'.wq
 have q3' := b3'.lay.Q
 have l0 := hi.lay
 have l4 := b4'.lay.sw
 have t3 : ∀ t, t ∈ (C.s3 f).waits -> t < 9 := by
  intro t ht
  have := (b3'.wt t ht).1
  have := b3'.lay.good.tns
  omega
 rw [if_pos hfb, if_pos hfb, if_pos hfb, if_pos hfb]
 refine ⟨fun _ => ?_, fun _ => ?_, a4', b4', c4', ?_⟩
 ·refine ⟨h.pgd hi, by rw [h.L]; have := l0.T; omega, ?_, by rw [h.sl]; have := l0.sw; omega, ?_, by rw [a2'.waits]; omega, by rw [z4]; omega, a3'.pgd b3', by rw [a3'.waits]; omega, ⟨(a4'.pgd b4').rl, (a4'.pgd b4').ok, by rw [a4'.sl]; omega⟩, ⟨?_, ?_⟩, ?_⟩
  ·intro x hx
   obtain ⟨i, hi', rfl⟩ := List.mem_iff_getElem.1 hx
   have e : B.sw i = B.sws[i] := z12 hi'
   rw [<- e]
   exact h.lt i
  ·intro k hk hg
   have hk' : k < (C.s1 f).L.rts.length := by rw [<- a1'.rl]; exact hk
   obtain ⟨x, y, z⟩ := hs2 k (by omega)
   have e : (B.s1 pf).route k = (B.s1 pf).rts[k] := z12 hk
   have er := pstepN_route (B.s1 pf) pf k k (Nat.le_refl _)
   have hl := x.lr k (by rw [z]; exact hk')
   rw [er, e] at hl
   have hph : (B.s1 pf).rts[k].ph = 100 := by
    unfold PRt.gave at hg
    by_cases e1 : (B.s1 pf).rts[k].ph = 100
    ·exact e1
    ·rw [if_neg e1] at hg; simp at hg
   have hne : (((C.s1 f).stepN f k).line k).ph ≠ 46 := by rw [<- hl.ph, hph]; decide
   rw [hl.tr hne, x.sta]
   obtain ⟨u, v⟩ := y.tr k (by rw [z]; exact hk') hne
   have := y.sta8g (((C.s1 f).stepN f k).line k).train
   omega
  ·intro t ht
   rw [d4] at ht
   exact t3 t (e4 t ht)
  ·rw [d4]; omega
  ·unfold PBx.doAs
   rw [List.length_map, List.length_range, z4]
   omega
 ·refine ⟨hi.watchOK hf, ?_, ?_, ?_, by rw [z3]; omega, by rw [z3]; exact z2, ?_, by omega, t3, b4'.watchOK hf4, by rw [hf4.ol]⟩
  ·intro k hk
   have hk' : k < (C.s1 f).L.rts.length := by rw [<- b1'.ll]; exact hk
   obtain ⟨x, y, z⟩ := hs2 k (by omega)
   refine ⟨y.stepOK (pf := pf) (by rw [z]; exact hf1) (by rw [z]; exact hk'), ?_⟩
   rw [y.ll, z, b1'.ll]
  ·rw [b1'.ll]; have := b1'.lay.rl; omega
  ·intro k hk
   have hk' : k < (s.size - C.L.bgn) / 2 := by rw [<- n3]; exact hk
   obtain ⟨x, y, z, -⟩ := hs3 k (by omega)
   refine ⟨y.doOK (pf := pf) (by rw [z]; exact hf2), ?_⟩
   rw [z, c2']
   exact (z5 k hk').1
  ·intro k hk
   obtain ⟨x, y, z, -⟩ := a3'.grantN b3' hf3 k (by omega)
   refine y.grantOK (pf := pf) (by rw [z]; exact hf3) ?_
   rw [List.drop_eq_getElem_cons hk]
   exact List.mem_append_right _ (List.mem_cons_self ..)
 ·unfold PBx.ansB RBx.ansB
  rw [a4'.lamps b4', a4'.moves b4' hf4, d4, z4, n3, d3]
  exact ans_nats _ _ _ _
theorem Sim.same {B : PBx} {C : RBx} (h : Sim B C) (hi : Inv C) : Same B C := by
 refine ⟨?_, ?_, ?_, ?_, ?_⟩
 ·unfold PBx.locksT RBx.locksT
  rw [h.L]
  refine List.map_congr_left (fun s hs => ?_)
  rw [h.lockedBy hi]
 ·unfold PBx.phasesT RBx.phasesT
  apply List.ext_getElem
  ·simp only [List.length_map]; rw [h.rl, hi.ll]
  ·intro r h1 h2
   simp only [List.length_map] at h1 h2
   rw [List.getElem_map, List.getElem_map]
   have hl := (h.lr r (by rw [<- hi.ll]; exact h2)).ph
   have e : B.route r = B.rts[r] := z12 h1
   have e' : C.line r = C.lines[r] := z12 h2
   rw [e, e'] at hl
   exact hl
 ·unfold PBx.switchesT RBx.switchesT
  rw [h.sl]
  refine flatMap_cg (fun s hs => ?_)
  unfold PBx.swT RBx.swT
  rw [h.L]
  by_cases e : C.L.sw.getD s false = true
  ·rw [if_pos e, if_pos e]
   obtain ⟨w1, w2, -⟩ := h.sw s hs e
   show [(B.sw s).tell] = _
   unfold PSw.tell
   rw [w1, w2]
  ·rw [if_neg e, if_neg e]
 ·unfold PBx.stateT RBx.stateT
  rw [h.sta]
 ·unfold RBx.queueT
  rw [h.waits, ordStr_nats]
theorem Sim.psm {B : PBx} {C : RBx} (h : Sim B C) (hi : Inv C) : PSm B := by
 have h1 := hi.lay.sw
 have h2 := hi.lay.rl
 have h3 := hi.lay.good.tns
 have h4 := hi.wq
 have h5 := hi.lay.Q
 have hp := h.pgd hi
 refine ⟨by rw [h.L]; omega, by rw [h.rl]; omega, fun x hx => (hp.ok x hx).freed, by rw [h.sl]; omega, by rw [h.sta, hi.st]; omega, fun t ht => ?_, by rw [h.waits]; omega, fun t ht => ?_⟩
 ·rw [h.sta] at ht
  have := hi.sta8 t ht
  omega
 ·rw [h.waits] at ht
  have := (hi.wt t ht).1
  omega
theorem Inv.rsm {C : RBx} (hi : Inv C) : RSm C := by
 have h1 := hi.lay.sw
 have h2 := hi.lay.rl
 have h3 := hi.lay.good.tns
 have h4 := hi.wq
 have h5 := hi.lay.Q
 refine ⟨by omega, by rw [hi.ll]; exact Nat.le_refl _, by omega, fun x hx => (hi.gone x hx).1, hi.wl, hi.fl, by rw [hi.st]; omega, fun x hx => ?_, by omega, fun x hx => ?_⟩
 ·have := hi.sta8 x hx; omega
 ·have := (hi.wt x hx).1; omega
theorem init_inv {L : Lay} (h : LayOK L) : Inv (RBx.init L) := by
 have hT := h.T
 have hl : ∀ r, (RBx.init L).line r = RLn0 := fun r => z26 _ _ _ _ rfl
 refine ⟨h, by simp [RBx.init], by simp [RBx.init], by simp [RBx.init], by simp [RBx.init], by simp [RBx.init], fun t => ?_, fun s => ?_, fun r hr => ?_, fun r hr hp => ?_, fun r r' hr hr' hp => ?_, Nat.zero_le _, List.nodup_nil, fun t ht => ?_⟩
 ·show (List.replicate L.tns.length 0).getD t 0 <= _
  rw [z26 _ _ _ _ rfl]; exact Nat.zero_le _
 ·show (List.replicate L.sw.length 0).getD s 0 < L.T
  rw [z26 _ _ _ _ rfl]; omega
 ·rw [hl]; exact ⟨fun _ => rfl, fun hh => by simp [RLn0] at hh, Nat.zero_le _⟩
 ·rw [hl] at hp; exact absurd rfl hp
 ·rw [hl] at hp; exact absurd rfl hp
 ·exact absurd (show t ∈ ([] : List Nat) from ht) (by simp)
theorem init_sim {L : Lay} : Sim (PBx.init L) (RBx.init L) := by
 refine ⟨rfl, by show (L.rts.map PRt.new).length = L.rts.length; simp, fun r hr => ?_, by show (List.replicate L.sw.length PSw.new).length = L.sw.length; simp, fun s hs hs2 => ?_, fun s => ?_, rfl, rfl⟩
 ·have hr' : r < L.rts.length := hr
  have e : (PBx.init L).route r = PRt.new (L.rt r) := by
   show (L.rts.map PRt.new).getD r _ = _
   rw [z12 (by simpa using hr'), List.getElem_map]
   unfold Lay.rt
   rw [z12 hr']
  have e2 : (RBx.init L).line r = RLn0 := z26 _ _ _ _ rfl
  rw [e, e2]
  exact ⟨rfl, rfl, fun hh => absurd rfl hh, fun hh => absurd rfl hh, fun hh => absurd rfl hh, fun hh => absurd rfl hh, fun hh => by simp [RLn0] at hh, fun hh => by simp [RLn0] at hh, Nat.zero_le _, Nat.zero_le _, Nat.zero_le _⟩
 ·have e : (PBx.init L).sw s = PSw.new := z26 _ _ _ _ rfl
  have hs' : s < L.sw.length := hs
  have hs2' : L.sw.getD s false = true := hs2
  rw [e]
  refine ⟨?_, ?_, ?_⟩
  ·show 43 = (L.sw.map (fun b => if b then 43 else 0)).getD s 0
   rw [z12 (by simpa using hs'), List.getElem_map]
   rw [z12 hs'] at hs2'
   rw [hs2']; rfl
  ·show false = (List.replicate L.sw.length false).getD s false
   rw [z26 _ _ _ _ rfl]
  ·show 0 = (List.replicate L.sw.length 0).getD s 0
   rw [z26 _ _ _ _ rfl]
 ·have e : (PBx.init L).sw s = PSw.new := z26 _ _ _ _ rfl
  rw [e]; exact Nat.zero_le _
def PairIn (w : World) (E : Nat -> Prop) (gp : Nat) (B : PBx) (C : RBx) : Prop := ∃ gb gc Dp Dc, w.heap[gp]? = some (.cells #[.pointer (some ⟨gb, 0, none⟩), .pointer (some ⟨gc, 0, none⟩)] 105 (0, 0)) ∧
 PBoxIn w Dp gb B /\ RBoxIn w Dc gc C /\ (∀ b, Dp b -> ¬ Dc b) /\ ¬ Dp gp /\ ¬ Dc gp /\ (∀ b, Dp b -> E b) /\ (∀ b, Dc b -> E b) /\ E gp /\ ∀ b, E b -> b < w.heap.size
theorem PairIn.at {w : World} {E : Nat -> Prop} {gp : Nat} {B : PBx} {C : RBx} (h : PairIn w E gp B C) : PairAt w gp B C := by
 obtain ⟨gb, gc, Dp, Dc, hg, hP, hR, -⟩ := h
 exact ⟨gb, gc, hg, hP.at, hR.at⟩
theorem PairIn.only {w w' : World} {E F : Nat -> Prop} {gp : Nat} {B : PBx} {C : RBx} (h : PairIn w E gp B C) (ho : Only F w w') (hd : ∀ b, E b -> ¬ F b) : PairIn w' E gp B C := by
 obtain ⟨gb, gc, Dp, Dc, hg, hP, hR, d1, d2, d3, d4, d5, d6, d7⟩ := h
 exact ⟨gb, gc, Dp, Dc, (ho.block gp (z0f hg) (hd gp d6)).trans hg, hP.only ho (fun b hb => hd b (d4 b hb)), hR.only ho (fun b hb => hd b (d5 b hb)), d1, d2, d3, d4, d5, d6, fun b hb => Nat.lt_of_lt_of_le (d7 b hb) ho.size⟩
theorem PairIn.below {w w' : World} {E : Nat -> Prop} {gp : Nat} {B : PBx} {C : RBx} (h : PairIn w E gp B C) (hb : Below w.heap.size w w') : PairIn w' E gp B C :=
 h.only (F := fun _ => False) (Only.of_below hb) (fun _ _ h => h)
set_option maxHeartbeats 1000000 in
theorem made_in (s : ByteArray) (w : World) :
  Calls Tryz.prog 23 #[.string s] w fun e w' =>
   (((errOf s.data.toList).1 ≠ 0 /\ e = .returned (.tuple #[.pointer none, .bool true])) ∨
    ((errOf s.data.toList).1 = 0 /\ ∃ gp, e = .returned (.tuple #[.pointer (some ⟨gp, 0, none⟩), .bool true]) /\ PairIn w' (fun b => w.heap.size <= b /\ b < w'.heap.size) gp (PBx.init (layOf s.data.toList)) (RBx.init (layOf s.data.toList)))) /\ Below w.heap.size w w' := by
 have hF := (load_eq s).1
 have H1 := zh (pNew_of s (z25 s) (layL s).2.2 w.heap.size w (Nat.le_refl _) ((load_lo s w (z38 s)).mono (fun e w' ⟨v, h1, h2, h3, h4⟩ => ⟨v, h1, h2, fun h => ⟨_, LayIn.far (h3 h).1, fun _ hk => hk.1⟩, h4⟩)) (fun h => by
  rw [hF] at h
  obtain ⟨e1, e2⟩ := lay_same s h
  rw [e1]; exact z40 e2))
 have H2 := zh (fun (wz : World) => rNew_lo s wz form_ok)
 have HLS := zh (lay_same s)
 rw [hF] at H1
 generalize (layL s).2.2 = L1 at *
 generalize layOf s.data.toList = L at *
 generalize (errOf s.data.toList).1 = E at *
 clear hF
 go_enter Tryz.func23, Tryz.ntmps23
 go_wp2_with fail
 refine (uh H1).mono ?_
 rintro e w1 ⟨hcase, hb1⟩
 have HB1 := zh hb1
 clear hb1
 by_cases h0 : E = 0
 ·have H0 := zh h0
  have hL1 := (uh HLS h0).1
  subst hL1
  rcases hcase with ⟨hx, -⟩ | ⟨-, gb, rfl, hgb, hPB⟩
  ·exact absurd h0 hx
  have HPB := zh hPB
  clear hPB
  go_wp2_with fail
  refine (uh H2 w1).mono ?_
  rintro e w2 ⟨hcase, hb2⟩
  rcases hcase with ⟨hx, -⟩ | ⟨-, gc, rfl, hgc, -, hRB⟩
  ·exact absurd h0 hx
  obtain ⟨z, hz⟩ : ∃ z, z = w2.heap.size := ⟨_, rfl⟩
  have HZ := zh hz
  have HRB := zh (show RBoxIn w2 (fun b => w1.heap.size <= b /\ b < z) gc (RBx.init L1) by rw [hz]; exact new_in hRB)
  have HPB2 := zh ((uh HPB).only (F := fun _ => False) (Only.of_below hb2) (fun _ _ h => h))
  have HZ2 := zh hb2.size
  have HB2 := zh ((uh HB1).trans (hb2.mono (uh HB1).size))
  clear hRB hb2 h0 hz
  go_wp2_with (go_at_call 59; refine (num_any 0 _).mono ?_; rintro e w' ⟨rfl, rfl⟩)
  go_ret2
  have z1 := (uh HB1).size
  have z2 := uh HZ2
  have z3 := uh HZ
  refine ⟨.inr ⟨uh H0, _, rfl, gb, gc, fun b => w.heap.size <= b /\ b < w1.heap.size, fun b => w1.heap.size <= b /\ b < z, heap_alloc_new _ _, (uh HPB2).only (F := fun _ => False) (Only.of_below (z02 _ _)) (fun _ _ h => h), (uh HRB).only (F := fun _ => False) (Only.of_below (z02 _ _)) (fun _ _ h => h), ?_, ?_, ?_, ?_, ?_, ?_, fun b hb => hb.2⟩, (uh HB2).alloc (uh HB2).size _⟩
  ·intro b h1 h2; omega
  ·intro h1; omega
  ·intro h1; omega
  ·intro b h1; refine ⟨h1.1, ?_⟩; simp; omega
  ·intro b h1; refine ⟨by omega, ?_⟩; simp; omega
  ·exact ⟨by omega, by simp⟩
 ·have H0 := zh h0
  rcases hcase with ⟨-, rfl⟩ | ⟨hx, -⟩
  rotate_left
  ·exact absurd hx h0
  go_wp2_with fail
  refine (uh H2 w1).mono ?_
  rintro e w2 ⟨hcase, hb2⟩
  rcases hcase with ⟨-, rfl⟩ | ⟨hx, -⟩
  rotate_left
  ·exact absurd hx h0
  have HB2 := zh ((uh HB1).trans (hb2.mono (uh HB1).size))
  clear hb2 h0
  go_wp2_with (go_at_call 59; refine (num_any (E : Nat) _).mono ?_; rintro e w' ⟨rfl, rfl⟩)
  go_ret2
  exact ⟨.inl ⟨uh H0, rfl⟩, uh HB2⟩
set_option maxHeartbeats 1000000 in
theorem cycle_pair (E : Nat -> Prop) (gp : Nat) (B : PBx) (C : RBx) (s : ByteArray) (k : Int) (w : World) (h : PairIn w E gp B C) (hs : Sim B C) (hi : Inv C) (hk : k = 1 \/ k = 2 \/ k = 3 \/ k = 4) :
  Calls Tryz.prog 24 #[.pointer (some ⟨gp, 0, none⟩), .string s, .int .i64 k] w fun e w' => e = .returned (.bool true) /\ PairIn w' (grow E w w') gp (B.cyc s) (C.cyc s) /\ Only E w w' := by
 obtain ⟨gb, gc, Dp, Dc, hg, hP, hR, d1, d2, d3, d4, d5, d6, d7⟩ := h
 obtain ⟨k1, k2, -, -, -, ka⟩ := hs.cyc hi s
 have hsw := hi.lay.sw
 have H1 := zh (pCycle_any Dp gb B s w hP k1)
 have H2 := zh (fun (wz : World) (hz : RBoxIn wz Dc gc C) => rCycle_any Dc gc C s wz hz (by omega) k2)
 rw [ka] at H1
 have HDP := zh hP.lt
 have HDC := zh hR.lt
 have HD := zh (And.intro d1 (And.intro d2 (And.intro d3 (And.intro d4 (And.intro d5 (And.intro d6 d7))))))
 have HR := zh hR
 generalize C.ans s = t at *
 generalize C.cyc s = C' at *
 generalize B.cyc s = B' at *
 obtain ⟨⟨c0, c1⟩, -, q⟩ := duo0 hg
 have HG := zh hg
 clear k1 k2 ka hs hi hP hR d1 d2 d3 d4 d5 d6 d7 hg hsw
 go_enter Tryz.func24, Tryz.ntmps24
 go_wp2_with fail
 refine (uh H1).mono ?_
 rintro e w1 ⟨rfl, hP1, ho1⟩
 have HP1 := zh hP1
 have HO1 := zh ho1
 have hg1 := (ho1.block gp (z0f (uh HG)) (uh HD).2.1).trans (uh HG)
 have hR1 := (uh HR).only ho1 (fun b hb hc => (uh HD).1 b hc hb)
 have HR1 := zh hR1
 have HG1 := zh hg1
 clear c0 c1 q hP1 ho1 hR1
 obtain ⟨⟨c0, c1⟩, -, q⟩ := duo0 hg1
 clear hg1
 go_wp2_with fail
 refine (uh H2 w1 (uh HR1)).mono ?_
 rintro e w2 ⟨rfl, hR2, ho2⟩
 have z1 := (uh HO1).size
 have z2 := ho2.size
 obtain ⟨e1, e2, e3, e4, e5, e6, e7⟩ := uh HD
 have hsz : gp < w.heap.size := e7 gp e6
 have hP2 := (uh HP1).only ho2 (fun b hb hc => by
  rcases hb with hb | hb
  ·exact e1 b hb hc
  ·have := e7 b (e5 b hc); omega)
 have hg2 := (ho2.block gp (by omega) e3).trans (uh HG1)
 have hO : Only E w w2 := ((uh HO1).mono e4).trans (ho2.mono e5)
 have HQ := zh (show PairIn w2 (grow E w w2) gp B' C' from
  ⟨gb, gc, grow Dp w w1, growR Dc w1 w2, hg2, hP2, hR2, fun b hb hc => by
   rcases hb with hb | hb <;> rcases hc with hc | hc
   ·exact e1 b hb hc
   ·have := e7 b (e4 b hb); omega
   ·have := e7 b (e5 b hc); omega
   ·omega, fun hb => by
   rcases hb with hb | hb
   ·exact e2 hb
   ·omega, fun hb => by
   rcases hb with hb | hb
   ·exact e3 hb
   ·omega, fun b hb => by
   rcases hb with hb | hb
   ·exact Or.inl (e4 b hb)
   ·exact Or.inr ⟨hb.1, by omega⟩, fun b hb => by
   rcases hb with hb | hb
   ·exact Or.inl (e5 b hb)
   ·exact Or.inr ⟨by omega, hb.2⟩, Or.inl e6, fun b hb => by
   rcases hb with hb | hb
   ·have := e7 b hb; omega
   ·exact hb.2⟩)
 have HO := zh hO
 clear c0 c1 q e1 e2 e3 e4 e5 e6 e7 hP2 hg2 hO hR2 ho2
 rcases hk with rfl | rfl | rfl | rfl
 all_goals
  go_wp2
  go_ret
  exact ⟨by simp, uh HQ, uh HO⟩
set_option maxHeartbeats 1000000 in
theorem tells_k (gp : Nat) (B : PBx) (C : RBx) (k : Int) (w : World) (h : PairAt w gp B C) (hp : PSm B) (hr : RSm C) (hs : Same B C) :
  Calls Tryz.prog 29 #[.pointer (some ⟨gp, 0, none⟩), .int .i64 k] w fun e w' => e = .returned (.bool true) /\ Below w.heap.size w w' := by
 obtain ⟨gb, gc, hg, h1, h2⟩ := h
 obtain ⟨⟨c0, c1⟩, -, q⟩ := duo0 hg
 have HG := zh hg
 clear hg
 by_cases k6 : k = 6
 ·subst k6
  have H1 := zh (pLocks_any gb B w h1 hp.sw hp.rts hp.fr)
  have H2 := zh (fun (wz : World) (hz : Below w.heap.size w wz) => rLocks_any gc C wz (h2.below hz) hr.sw hr.ll hr.rts hr.go)
  rw [hs.locks] at H1
  generalize z09 C.locksT = t1 at *
  clear hp hr hs h1 h2
  go_enter Tryz.func29, Tryz.ntmps29
  go_wp2_with fail
  refine (uh H1).mono ?_
  rintro e w1 ⟨rfl, hb1⟩
  have HB1 := zh hb1
  clear c0 c1
  obtain ⟨⟨c0, c1⟩, -, q1⟩ := duo0 ((hb1.block gp q).trans (uh HG))
  clear hb1
  go_wp2_with fail
  refine (uh H2 w1 (uh HB1)).mono ?_
  rintro e w2 ⟨rfl, hb2⟩
  have HB2 := zh ((uh HB1).trans (hb2.mono (uh HB1).size))
  clear hb2
  go_wp2
  go_ret
  exact ⟨rfl, uh HB2⟩
 by_cases k7 : k = 7
 ·subst k7
  have H1 := zh (pPhases_any gb B w h1 (by have := hp.rts; omega))
  have H2 := zh (fun (wz : World) (hz : Below w.heap.size w wz) => rPhases_any gc C wz (h2.below hz) (by have := hr.ll; have := hr.rts; omega))
  rw [hs.phases] at H1
  generalize z09 C.phasesT = t1 at *
  clear hp hr hs h1 h2
  go_enter Tryz.func29, Tryz.ntmps29
  go_wp2_with fail
  refine (uh H1).mono ?_
  rintro e w1 ⟨rfl, hb1⟩
  have HB1 := zh hb1
  clear c0 c1
  obtain ⟨⟨c0, c1⟩, -, q1⟩ := duo0 ((hb1.block gp q).trans (uh HG))
  clear hb1
  go_wp2_with fail
  refine (uh H2 w1 (uh HB1)).mono ?_
  rintro e w2 ⟨rfl, hb2⟩
  have HB2 := zh ((uh HB1).trans (hb2.mono (uh HB1).size))
  clear hb2
  go_wp2
  go_ret
  exact ⟨rfl, uh HB2⟩
 by_cases k8 : k = 8
 ·subst k8
  have H1 := zh (pSwitches_any gb B w h1 hp.wa)
  have H2 := zh (fun (wz : World) (hz : Below w.heap.size w wz) => rSwitches_any gc C wz (h2.below hz) hr.sw hr.wa hr.fa)
  rw [hs.switches] at H1
  generalize z09 C.switchesT = t1 at *
  clear hp hr hs h1 h2
  go_enter Tryz.func29, Tryz.ntmps29
  go_wp2_with fail
  refine (uh H1).mono ?_
  rintro e w1 ⟨rfl, hb1⟩
  have HB1 := zh hb1
  clear c0 c1
  obtain ⟨⟨c0, c1⟩, -, q1⟩ := duo0 ((hb1.block gp q).trans (uh HG))
  clear hb1
  go_wp2_with fail
  refine (uh H2 w1 (uh HB1)).mono ?_
  rintro e w2 ⟨rfl, hb2⟩
  have HB2 := zh ((uh HB1).trans (hb2.mono (uh HB1).size))
  clear hb2
  go_wp2
  go_ret
  exact ⟨rfl, uh HB2⟩
 by_cases k9 : k = 9
 ·subst k9
  have H1 := zh (pAt_any gb B w h1 hp.st hp.st9)
  have H2 := zh (fun (wz : World) (hz : Below w.heap.size w wz) => rState_any gc C wz (h2.below hz) hr.st hr.sx)
  rw [hs.state] at H1
  generalize z09 C.stateT = t1 at *
  clear hp hr hs h1 h2
  go_enter Tryz.func29, Tryz.ntmps29
  go_wp2_with fail
  refine (uh H1).mono ?_
  rintro e w1 ⟨rfl, rfl⟩
  have HB1 := zh (Below.refl w1.heap.size w1)
  go_wp2_with fail
  refine (uh H2 w1 (uh HB1)).mono ?_
  rintro e w2 ⟨rfl, hb2⟩
  have HB2 := zh ((uh HB1).trans (hb2.mono (uh HB1).size))
  clear hb2
  go_wp2
  go_ret
  exact ⟨rfl, uh HB2⟩
 by_cases k10 : k = 10
 ·subst k10
  have H1 := zh (pQueue_any gb B w h1 hp.wl hp.w9)
  have H2 := zh (fun (wz : World) (hz : Below w.heap.size w wz) => rQueue_any gc C wz (h2.below hz) hr.wl hr.wx)
  rw [hs.queue] at H1
  generalize z09 C.queueT = t1 at *
  clear hp hr hs h1 h2
  go_enter Tryz.func29, Tryz.ntmps29
  go_wp2_with fail
  refine (uh H1).mono ?_
  rintro e w1 ⟨rfl, rfl⟩
  have HB1 := zh (Below.refl w1.heap.size w1)
  go_wp2_with fail
  refine (uh H2 w1 (uh HB1)).mono ?_
  rintro e w2 ⟨rfl, hb2⟩
  have HB2 := zh ((uh HB1).trans (hb2.mono (uh HB1).size))
  clear hb2
  go_wp2
  go_ret
  exact ⟨rfl, uh HB2⟩
 clear hp hr hs h1 h2 c0 c1
 have e6 : (k == 6) = false := by simpa using k6
 have e7 : (k == 7) = false := by simpa using k7
 have e8 : (k == 8) = false := by simpa using k8
 have e9 : (k == 9) = false := by simpa using k9
 have e10 : (k == 10) = false := by simpa using k10
 clear k6 k7 k8 k9 k10
 go_enter Tryz.func29, Tryz.ntmps29
 go_wp2
 go_ret
 exact ⟨rfl, Below.refl _ _⟩
set_option maxHeartbeats 400000 in
theorem pick_val (c : Int) (n : Nat) (hn : 0 < n) (hn2 : n <= maxLen) (hc : -9223372036854775808 <= c /\ c <= 9223372036854775807) :
  ∃ k : Nat, k < n /\ ∀ w, Calls Tryz.prog 28 #[.int .i64 c, .int .i64 n] w fun e w' => e = .returned (.int .i64 k) /\ w' = w := by
 unfold maxLen at hn2
 have hz : ((n : Int) == 0) = false := by simp; omega
 have key : ∀ d : Int, 0 <= d -> ∃ k : Nat, k < n /\ d.tmod n = k := fun d hd => by
  obtain ⟨m, rfl⟩ := Int.eq_ofNat_of_zero_le hd
  exact ⟨m % n, Nat.mod_lt _ hn, (Int.ofNat_tmod m n).symm⟩
 by_cases h0 : c < 0
 ·have v1 : IntKind.i64.wrap (c + 1) = c + 1 := Go.IntWalk.i64_in _ (by omega)
  have v2 : IntKind.i64.wrap (-(c + 1)) = -(c + 1) := Go.IntWalk.i64_in _ (by omega)
  obtain ⟨k, hk, he⟩ := key (-(c + 1)) (by omega)
  have v3 : IntKind.i64.wrap ((-(c + 1)).tmod n) = (-(c + 1)).tmod n := Go.IntWalk.i64_in _ (by rw [he]; omega)
  rw [Int.neg_tmod] at he v3
  have HE := zh he
  clear he
  refine ⟨k, hk, fun w => ?_⟩
  go_enter Tryz.func28, Tryz.ntmps28
  go_wp2
  go_ret
  exact ⟨z11 (uh HE), rfl⟩
 ·obtain ⟨k, hk, he⟩ := key c (by omega)
  rw [Int.tmod_eq_emod_of_nonneg (by omega)] at he
  have v3 : IntKind.i64.wrap (c % n) = c % n := Go.IntWalk.i64_in _ (by rw [he]; omega)
  have HE := zh he
  clear he
  refine ⟨k, hk, fun w => ?_⟩
  go_enter Tryz.func28, Tryz.ntmps28
  go_wp2
  go_ret
  exact ⟨z11 (uh HE), rfl⟩
def z2g (s a : ByteArray) : List Nat := (z19 (layL s).2.2.tns.length ((layL s).2.2.stsAt (digs a.data.toList))).1
def ansOf (s a : ByteArray) : ByteArray × Nat :=
 if (ordOf s a).2 ≠ 0 then (⟨#[]⟩, (ordOf s a).2)
 else if (ordOf s a).1 = false then (⟨#[]⟩, 8)
 else (z1r (z2g s a), 0)
set_option maxHeartbeats 1000000 in
theorem lOrder_any (s a : ByteArray) (w : World) (hP : z3d s) (hB : (ordOf s a).1 = true -> (z2g s a).length <= 1000 /\ ∀ t, t ∈ z2g s a -> t < 9) :
  Calls Tryz.prog 64 #[.string s, .string a] w fun e w' => e = .returned (.tuple #[.string (ansOf s a).1, .int .i64 (ansOf s a).2]) /\ Below w.heap.size w w' := by
 have H := zh (orderFrom_any s a w hP)
 change Hid (Calls _ _ _ _ (fun e w' => ∃ (ao : Option Addr) (no co : Nat), _ /\ (_ -> Ints w' (.slice ao no co) (z2g s a)) /\ _)) at H
 obtain ⟨Z, hZ⟩ : ∃ Z, Z = ansOf s a := ⟨_, rfl⟩
 rw [<- hZ]
 unfold ansOf at hZ
 have HZ := zh hZ
 have HB := zh hB
 generalize ordOf s a = E at *
 generalize z2g s a = o at *
 obtain ⟨b, n⟩ := E
 simp only at H HZ HB
 clear hP hZ hB
 go_enter Tryz.func64, Tryz.ntmps64
 go_wp2_with fail
 refine (uh H).mono ?_
 rintro e w1 ⟨ao, no, co, rfl, hI, hb⟩
 have HI := zh hI
 have HW := zh hb
 clear hI hb H
 by_cases h0 : n = 0
 ·rw [if_neg (by simp [h0])] at HZ
  have hE : ((n : Int) != 0) = false := by simp [h0]
  clear h0
  cases b with
  | false =>
   rw [if_pos rfl] at HZ
   go_wp2
   go_ret2
   exact ⟨by rw [uh HZ] <;> rfl, uh HW⟩
  | true =>
   rw [if_neg (by simp)] at HZ
   obtain ⟨hlo, ht9⟩ := uh HB rfl
   have hI := uh HI rfl
   have HT := zh ht9
   clear HB HI ht9
   go_wp2_with fail
   refine (digits_any _ o _ hI (uh HT) hlo).mono ?_
   rintro e w' ⟨rfl, rfl⟩
   clear hI
   go_wp2
   go_ret2
   exact ⟨by rw [uh HZ] <;> rfl, uh HW⟩
 ·rw [if_pos h0] at HZ
  have hE : ((n : Int) != 0) = true := by simp [h0]
  clear h0
  go_wp2
  go_ret2
  exact ⟨by rw [uh HZ] <;> rfl, uh HW⟩
set_option maxHeartbeats 400000 in
theorem Ordered_err (s a : ByteArray) (E : Nat) (w : World) (hF : FormOK) (h0 : (z3u s.data.toList a.data.toList).2 ≠ 0) (hE : E = (z3u s.data.toList a.data.toList).2) :
  Calls Tryz.prog 65 #[.string s, .string a, .string ⟨#[]⟩, .int .i64 E] w fun e w' => e = .returned (.bool true) /\ Below w.heap.size w w' := by
 have H := zh (rSafe_any s a w hF)
 rw [<- hE] at H h0
 generalize (z3u s.data.toList a.data.toList).1 = b at *
 have hz : ((E : Int) != 0) = true := by simp [h0]
 clear hF hE h0
 go_enter Tryz.func65, Tryz.ntmps65
 go_wp2_with fail
 refine (uh H).mono ?_
 rintro e w1 ⟨rfl, hb⟩
 have HB := zh hb
 clear hb H
 go_wp2
 go_ret
 exact ⟨rfl, uh HB⟩
set_option maxHeartbeats 400000 in
theorem Ordered_stuck (s a : ByteArray) (w : World) (hF : FormOK) (hE : z3u s.data.toList a.data.toList = (false, 0)) :
  Calls Tryz.prog 65 #[.string s, .string a, .string ⟨#[]⟩, .int .i64 8] w fun e w' => e = .returned (.bool true) /\ Below w.heap.size w w' := by
 have H := zh (rSafe_any s a w hF)
 rw [hE] at H
 clear hF hE
 go_enter Tryz.func65, Tryz.ntmps65
 go_wp2_with fail
 refine (uh H).mono ?_
 rintro e w1 ⟨rfl, hb⟩
 have HB := zh hb
 clear hb H
 go_wp2
 go_ret
 exact ⟨rfl, uh HB⟩
theorem safe_true {l a : List UInt8} (h : z3u l a = (true, 0)) : (errOf l).1 = 0 /\ (layOf l).stateB a = true := by
 unfold z3u at h
 by_cases h1 : (errOf l).1 = 0
 ·rw [if_neg (by simp [h1])] at h
  cases hs : (layOf l).stateB a with
  | true => exact ⟨h1, rfl⟩
  | false => rw [hs, if_pos rfl] at h; cases h
 ·rw [if_pos h1] at h; cases h
set_option maxHeartbeats 1000000 in
theorem Ordered_told (s a : ByteArray) (ts : List Nat) (w : World) (hF : FormOK) (hE : z3u s.data.toList a.data.toList = (true, 0)) (hfo : (layOf s.data.toList).Foll (digs a.data.toList) ts) (h9 : ∀ t, t ∈ ts -> t < 9) (hts : ts.length <= 1000) :
  Calls Tryz.prog 65 #[.string s, .string a, .string (z1r ts), .int .i64 0] w fun e w' => e = .returned (.bool true) /\ Below w.heap.size w w' := by
 have H := zh (rSafe_any s a w hF)
 rw [hE] at H
 have HRD := zh (fun w => Read_any s w (fun h => hF _ (by simpa using h)))
 obtain ⟨h0, hst⟩ := safe_true hE
 obtain ⟨k1, k2, k3, k4, k5, k6⟩ := err0 s.data.toList h0
 have hform := hF s.data.toList k1 k2
 have hpaths : (layOf s.data.toList).Paths := by obtain ⟨-, -, -, -, p0, p1, p2, p3, -, -, -, h⟩ := hform; exact h
 have hjn := jnys_of _ k5
 have htl : (layOf s.data.toList).tns.length <= 5 := by
  unfold Lay.big at k3
  simp only [Bool.or_eq_false_iff, decide_eq_false_iff_not] at k3
  omega
 have hlen : (digs a.data.toList).length = (layOf s.data.toList).tns.length := by
  unfold Lay.stateB at hst
  simp only [Bool.and_eq_true, beq_iff_eq] at hst
  simpa [digs] using hst.1
 generalize layOf s.data.toList = L at *
 generalize errOf s.data.toList = E at *
 obtain ⟨os, hos⟩ : ∃ os, os = z1r ts := ⟨_, rfl⟩
 have HG := zh (show ∀ k (h : k < os.size), ∃ h' : k < ts.length, os[k].toNat = 49 + ts[k] by
  intro k h
  subst hos
  exact ⟨by rw [z1z] at h; exact h, ordStr_get ts k h h9⟩)
 have hsz : os.size = ts.length := by rw [hos]; exact z1z ts
 rw [<- hos]
 have HSZ := zh hsz
 have hsz2 : os.size <= 1000 := by omega
 have HJ := zh hjn
 have HPA := zh hpaths
 have H0 := zh h0
 have HST := zh hst
 have HLEN := zh hlen
 have HFO := zh hfo
 have H9 := zh h9
 clear hos hsz hF hE h0 hst k1 k2 k3 k4 k5 k6 hform hpaths hjn hlen hfo h9 hts
 go_enter Tryz.func65, Tryz.ntmps65
 go_wp2_with fail
 refine (uh H).mono ?_
 rintro e w1 ⟨rfl, hb⟩
 have HB1 := zh hb
 clear hb H
 go_wp2_with fail
 refine (uh HRD _).mono ?_
 rintro e w2 ⟨v, rfl, ⟨T, D, Q, a1, a2, a3, n1, n2, n3, d1, d2, d3, rfl⟩, hR, hb⟩
 have HR := zh (hR (uh H0))
 have HB2 := zh ((uh HB1).trans (hb.mono (uh HB1).size))
 clear hR hb HRD
 have HS := zh (state_any _ L a _ ((uh HR).below (z02 w2 (.cells #[.int .i64 T, .int .i64 D, .int .i64 Q, .slice a1 n1 d1, .slice a2 n2 d2, .slice a3 n3 d3] 130))) (by omega))
 rw [uh HST] at HS
 go_wp2_with fail
 refine (uh HS).mono ?_
 rintro e w3 ⟨v', rfl, hI, hb2⟩
 have HIN := zh (hI (by trivial))
 have HBX := zh (hb2.mono (by simp) : Below (w2.heap.size + 1) (w2.alloc (.cells #[.int .i64 T, .int .i64 D, .int .i64 Q, .slice a1 n1 d1, .slice a2 n2 d2, .slice a3 n3 d3] 130)) w3)
 clear hI hb2 HS
 obtain ⟨vh, vr, vt, hv, hH, hRt, hT⟩ := uh HR
 simp only [Value.agg.injEq, Array.mk.injEq, List.cons.injEq, and_true, Value.int.injEq, true_and] at hv
 obtain ⟨-, -, -, rfl, rfl, rfl⟩ := hv
 obtain ⟨ao, cap, hv2, t1, t2, t3⟩ := SlAt.open hT
 simp only [Value.slice.injEq] at hv2
 obtain ⟨rfl, rfl, rfl⟩ := hv2
 unfold maxLen at t2
 clear hT hH hRt
 go_wp2
 go_loopw [14, 16] (fun r i wr => ∃ (k : Nat) (at_ : List Nat), k <= os.size /\ i = .int .i64 k /\ Ints wr r at_ /\ at_.length = L.tns.length /\ L.Foll at_ (ts.drop k) ∧
   Below (w2.heap.size + 1) (w2.alloc (.cells #[.int .i64 T, .int .i64 D, .int .i64 Q, .slice a1 n1 d1, .slice a2 n2 d2, .slice a3 L.tns.length d3] 130)) wr) (fun _ i _ => os.size - (intOf i).toNat)
 case atStart => exact ⟨0, _, Nat.zero_le _, rfl, uh HIN, uh HLEN, uh HFO, uh HBX⟩
 case round =>
  clear HIN HLEN HFO HBX HST
  obtain ⟨k, at_, hk, rfl, hI, hla, hfo, hb⟩ := hrel
  have HB := zh hb
  have HI := zh hI
  have HLA := zh hla
  have q0 := z0j hb 0
  have q1 := z0j hb 1
  have q2 := z0j hb 2
  have q3 := z0j hb 3
  have q4 := z0j hb 4
  have q5 := z0j hb 5
  simp at q0 q1 q2 q3 q4 q5
  have qs := z33 hb
  obtain ⟨aoa, capa, rfl, b1, b2, b3⟩ := SlAt.open hI
  unfold maxLen at b2
  clear hI
  have hal : at_.length <= 5 := by omega
  by_cases hlt : k < os.size
  ·obtain ⟨hkt, hck⟩ := uh HG k hlt
   rw [List.drop_eq_getElem_cons hkt] at hfo
   have h9 := uh H9 _ (List.getElem_mem hkt)
   generalize ts[k] = t at *
   obtain ⟨f1, f2, f3, f4⟩ := hfo
   have HF4 := zh f4
   have HRUN := zh f3
   have htL : t < L.tns.length := by omega
   obtain ⟨g, off, hao, hg, cs, -, hC, hc⟩ := t3 t htL
   subst hao
   obtain ⟨vj, rfl, hJ⟩ := hC
   have hc1 := hc 1 (by omega)
   have HC1 := zh (fun wz (hz : Below w2.heap.size w2 wz) => (hz.cell (p := ⟨g, _, none⟩) hg).trans hc1)
   rw [<- (z05 hb).cell (p := ⟨g, _, none⟩) hg] at hc1
   obtain ⟨aoj, capj, rfl, j1, j2, -⟩ := SlAt.open hJ
   obtain ⟨ga, offa, hao, hga, cs2, -, hC2, hd⟩ := b3 t f1
   subst hao
   unfold CInt at hC2
   subst hC2
   have hd0 := hd 0 (by omega)
   have hdn : ¬ L.tns[t].jny.length <= at_[t] := by
    have : L.doneB at_ t = decide (L.tns[t].jny.length <= at_[t]) := by simp only [Lay.doneB, tn_eq L t htL, getD_eq at_ t f1]
    rw [this] at f2
    simpa using f2
   have HW := zh (show L.withN at_ t = at_.set t L.tns[t].jny.length by simp only [Lay.withN, tn_eq L t htL])
   simp at hc1 hd0
   clear hc hd t3 b3 hJ hb f2 f3 f4 hla
   unfold maxLen at j2
   generalize L.tns[t].jny = jl at *
   generalize at_[t] = n at *
   obtain ⟨c, hce⟩ : ∃ c, os[k].toNat = c := ⟨_, rfl⟩
   rw [hce] at hck
   have hct : (c : Int) - 49 = (t : Int) := by omega
   have hcb : c < 256 := by omega
   have HCK := zh hck
   clear hck
   go_wp2
   go_quiet (fail)
   have HI1 := zh (fun n => (uh HI).below (below_drewN (Below.refl wr.heap.size wr) n))
   have HB1 := zh (fun n => below_drewN (uh HB) n)
   go_wp2_with fail
   refine (runs_any _ _ L at_ t _ ((uh HR).below (z05 (uh HB1 _))) (uh HI1 _) f1 (uh HLA) (uh HPA) (uh HJ)).mono ?_
   rw [uh HRUN]
   rintro e w' ⟨rfl, hb'⟩
   have hb4 := (uh HB1 _).trans (hb'.mono (B' := w2.heap.size + 1) qs)
   have hc1 := uh HC1 w' (z05 hb4)
   have q5 := z0j hb4 5
   simp at hc1 q5
   have HI3 := zh ((uh HI1 _).below hb')
   have HBS := zh hb'.size
   clear q0 q1 q2 q3 q4 hb'
   have HB4 := zh hb4
   clear hb4
   go_wp2_with fail
   refine (with_any _ at_ t jl.length _ (uh HI3) (by omega)).mono ?_
   rintro e w4 ⟨v2, rfl, hI2, hb2⟩
   have HB5 := zh ((uh HB4).trans (hb2.mono (B' := w2.heap.size + 1) (z33 (uh HB4))))
   rw [<- uh HW] at hI2
   have HI2 := zh hI2
   clear hb2 hI2
   go_wp2
   exact ⟨⟨k + 1, L.withN at_ t, by omega, by go_num, uh HI2, by simp only [Lay.withN, List.length_set]; exact uh HLA, uh HF4, uh HB5⟩, by simp [intOf]; omega⟩
  ·have hkd : ts.drop k = [] := List.drop_of_length_le (by have := uh HSZ; omega)
   rw [hkd] at hfo
   have HD := zh (show ∀ t, t < at_.length -> L.doneB at_ t = true by
    intro t ht
    have : L.allDone at_ = true := hfo
    unfold Lay.allDone at this
    rw [List.all_eq_true] at this
    exact this t (List.mem_range.2 ht))
   clear hkd hfo hla hb
   go_wp2
   go_loopw [19] (fun i wz => ∃ t : Nat, t <= at_.length /\ i = .int .i64 t /\ Ints wz (.slice aoa at_.length capa) at_ ∧
     Below (w2.heap.size + 1) (w2.alloc (.cells #[.int .i64 T, .int .i64 D, .int .i64 Q, .slice a1 n1 d1, .slice a2 n2 d2, .slice a3 L.tns.length d3] 130)) wz) (fun i _ => at_.length - (intOf i).toNat)
   case atStart => exact ⟨0, Nat.zero_le _, rfl, uh HI, uh HB⟩
   case round =>
    clear q0 q1 q2 q3 q4 q5 HI HB b1 b2 b3 qs
    obtain ⟨t, ht, rfl, hI, hb⟩ := hrel
    have HB := zh hb
    have HI := zh hI
    have q0 := z0j hb 0
    have q1 := z0j hb 1
    have q2 := z0j hb 2
    have q3 := z0j hb 3
    have q4 := z0j hb 4
    have q5 := z0j hb 5
    simp at q0 q1 q2 q3 q4 q5
    have qs := z33 hb
    obtain ⟨aob, capb, hv, b1, b2, b3⟩ := SlAt.open hI
    simp only [Value.slice.injEq] at hv
    obtain ⟨rfl, -, rfl⟩ := hv
    unfold maxLen at b2
    clear hI
    by_cases hlt2 : t < at_.length
    ·have htL : t < L.tns.length := by have := uh HLA; omega
     obtain ⟨g, off, hao, hg, cs, -, hC, hc⟩ := t3 t htL
     subst hao
     obtain ⟨vj, rfl, hJ⟩ := hC
     have hc1 := hc 1 (by omega)
     rw [<- (z05 hb).cell (p := ⟨g, _, none⟩) hg] at hc1
     obtain ⟨aoj, capj, rfl, j1, j2, -⟩ := SlAt.open hJ
     obtain ⟨ga, offa, hao, hga, cs2, -, hC2, hd⟩ := b3 t hlt2
     subst hao
     unfold CInt at hC2
     subst hC2
     have hd0 := hd 0 (by omega)
     have hdn : L.tns[t].jny.length <= at_[t] := by
      have h2 := uh HD t hlt2
      have : L.doneB at_ t = decide (L.tns[t].jny.length <= at_[t]) := by simp only [Lay.doneB, tn_eq L t htL, getD_eq at_ t hlt2]
      rw [this] at h2
      simpa using h2
     simp at hc1 hd0
     clear hc hd t3 b3 hJ hb
     unfold maxLen at j2
     generalize L.tns[t].jny = jl at *
     generalize at_[t] = n at *
     go_wp2
     go_quiet (fail)
     go_wp2
     exact ⟨⟨t + 1, by omega, by go_num, (uh HI).below (by first | exact Below.refl _ _ | exact below_drewN (Below.refl _ _) _), by first | exact uh HB | exact below_drewN (uh HB) _⟩, by simp [intOf]; omega⟩
    ·have hbe := zh ((uh HB2).trans ((z05 (uh HB)).mono (uh HB2).size))
     clear b3 hb t3
     go_wp2
     go_ret
     exact ⟨rfl, uh hbe⟩
end Go.Proofs.YtkbpocecbcaiiaaGreatDoor
namespace Go.Proofs.YtkbpocecbcaiiaaGreatDoor
theorem order_foll (L : Lay) : ∀ (f : Nat) (at_ : List Nat) (l : List St), RelS L at_ l -> (∀ i (h : i < l.length), l[i].done = true -> L.doneB at_ i = true) -> (z19 f l).2.all (·.done) = true -> L.Foll at_ (z19 f l).1 := by
 have hall : ∀ (at_ : List Nat) (l : List St), RelS L at_ l -> (∀ i (h : i < l.length), l[i].done = true -> L.doneB at_ i = true) -> l.all (·.done) = true -> L.allDone at_ = true := by
  intro at_ l hR hx h
  unfold Lay.allDone
  rw [List.all_eq_true]
  intro i hi
  have hi' : i < l.length := by rw [hR.1, <- hR.2.1]; exact List.mem_range.1 hi
  rw [List.all_eq_true] at h
  exact hx i hi' (h _ (List.getElem_mem hi'))
 intro f
 induction f with
 | zero => intro at_ l hR hx h; exact hall at_ l hR hx h
 | succ f ih =>
  intro at_ l hR hx h
  unfold z19 at h ⊢
  cases hf : z32 l with
  | none =>
   rw [hf] at h
   exact hall at_ l hR hx h
  | some k =>
   rw [hf] at h
   simp only at h ⊢
   obtain ⟨hk, hd, hm⟩ := z2k hf
   have hk' : k < at_.length := by rw [hR.2.1, <- hR.1]; exact hk
   refine ⟨hk', (hR.2.2 k hk hd).1, runs_of_may L at_ l hR hx k hk hd hm, ?_⟩
   refine ih (L.withN at_ k) (markD l k) ⟨by rw [z1y]; exact hR.1, by rw [withN_len]; exact hR.2.1, fun i hi hdi => ?_⟩ (fun i hi hdi => ?_) h
   ·have hi' : i < l.length := by rw [z1y] at hi; exact hi
    rw [markD_get l k i hk hi'] at hdi ⊢
    by_cases hki : k = i
    ·rw [if_pos hki] at hdi; cases hdi
    ·rw [if_neg hki] at hdi ⊢
     obtain ⟨a1, a2, a3⟩ := hR.2.2 i hi' hdi
     have e : (L.withN at_ k).getD i 0 = at_.getD i 0 := by rw [z3f, if_neg (by omega)]
     rw [e]
     exact ⟨by unfold Lay.doneB at a1 ⊢; rw [e]; exact a1, a2, a3⟩
   ·have hi' : i < l.length := by rw [z1y] at hi; exact hi
    rw [markD_get l k i hk hi'] at hdi
    by_cases hki : k = i
    ·subst hki; exact withN_done L at_ k hk'
    ·rw [if_neg hki] at hdi
     have := hx i hi' hdi
     have e : (L.withN at_ k).getD i 0 = at_.getD i 0 := by rw [z3f, if_neg (by omega)]
     unfold Lay.doneB at this ⊢; rw [e]; exact this
theorem foll_lt (L : Lay) : ∀ (o at_ : List Nat), L.Foll at_ o -> ∀ t, t ∈ o -> t < at_.length
 | [], _, _, t, h => by cases h
 | x :: o, at_, h, t, ht => by
  rcases List.mem_cons.1 ht with e | e
  ·rw [e]; exact h.1
  ·have := foll_lt L o _ h.2.2.2 t e
   rw [withN_len] at this; exact this
theorem order_len : ∀ (f : Nat) (l : List St), (z19 f l).1.length <= f
 | 0, _ => Nat.le_refl _
 | f + 1, l => by
  unfold z19
  cases z32 l with
  | none => exact Nat.zero_le _
  | some k => simpa using order_len f (markD l k)
theorem z42 (L : Lay) (at_ : List Nat) (hl : at_.length = L.tns.length) (h : (z19 L.tns.length (L.stsAt at_)).2.all (·.done) = true) : L.Foll at_ (z19 L.tns.length (L.stsAt at_)).1 := by
 obtain ⟨hR, hx⟩ := sts_rel L at_ hl
 exact order_foll L _ at_ _ hR hx h
end Go.Proofs.YtkbpocecbcaiiaaGreatDoor
namespace Go.Proofs.YtkbpocecbcaiiaaGreatDoor
open Go.RowKit
theorem ans_right (s a : ByteArray) (w : World) :
  Calls Tryz.prog 65 #[.string s, .string a, .string (ansOf s a).1, .int .i64 (ansOf s a).2] w fun e w' => e = .returned (.bool true) /\ Below w.heap.size w w' := by
 have hA := ord_eq s a
 unfold ansOf
 by_cases h0 : (ordOf s a).2 = 0
 ·rw [if_neg (by simp [h0])]
  cases h1 : (ordOf s a).1 with
  | false =>
   rw [if_pos rfl]
   exact Ordered_stuck s a w form_ok (by rw [<- hA]; exact Prod.ext h1 h0)
  | true =>
   rw [if_neg (by simp)]
   have hE : ordOf s a = (true, 0) := Prod.ext h1 h0
   rw [hA] at hE
   obtain ⟨e0, e1⟩ := safe_true hE
   obtain ⟨b1, b2, b3, -⟩ := err0 _ e0
   have hs : s.size <= 256 := by simpa using b1
   rcases form_eq s hs with ⟨f1, f2, f3, -⟩ | ⟨f1, f2, f3⟩
   ·rw [f3] at e1 b3
    have hl := z3x e1
    have hok : (layL s).2.2.okL (digs a.data.toList) = true := by
     have hx : ordOf s a = (true, 0) := Prod.ext h1 h0
     unfold ordOf at hx
     rw [(load_eq s).1, if_neg (by simp [e0]), if_neg (by simp [e1])] at hx
     exact (Prod.mk.inj hx).1
    have hfo := z42 _ _ hl hok
    have h5 : (layL s).2.2.tns.length <= 5 := by
     unfold Lay.big at b3
     simp only [Bool.or_eq_false_iff, decide_eq_false_iff_not] at b3
     omega
    have hle := order_len (layL s).2.2.tns.length ((layL s).2.2.stsAt (digs a.data.toList))
    refine Ordered_told s a (z2g s a) w form_ok hE (by rw [f3]; exact hfo) (fun t ht => ?_) (by unfold z2g; omega)
    have := foll_lt _ _ _ hfo t ht
    omega
   ·exact absurd b2 f2
 ·rw [if_pos h0]
  exact Ordered_err s a _ w form_ok (by rw [<- hA]; exact h0) (by rw [hA])
theorem trains_small (s a : ByteArray) (h1 : (ordOf s a).1 = true) : (z2g s a).length <= 1000 /\ ∀ t, t ∈ z2g s a -> t < 9 := by
 have hA := ord_eq s a
 have h0 : (ordOf s a).2 = 0 := by
  unfold ordOf at h1 ⊢
  split at h1
  ·cases h1
  ·rename_i g1
   rw [if_neg g1]
   split at h1
   ·cases h1
   ·rename_i g2
    rw [if_neg g2]
 have hE : ordOf s a = (true, 0) := Prod.ext h1 h0
 rw [hA] at hE
 obtain ⟨e0, e1⟩ := safe_true hE
 obtain ⟨b1, b2, b3, -⟩ := err0 _ e0
 have hs : s.size <= 256 := by simpa using b1
 rcases form_eq s hs with ⟨f1, f2, f3, -⟩ | ⟨f1, f2, f3⟩
 ·rw [f3] at e1 b3
  have hl := z3x e1
  have hok : (layL s).2.2.okL (digs a.data.toList) = true := by
   have hx : ordOf s a = (true, 0) := Prod.ext h1 h0
   unfold ordOf at hx
   rw [(load_eq s).1, if_neg (by simp [e0]), if_neg (by simp [e1])] at hx
   exact (Prod.mk.inj hx).1
  have hfo := z42 _ _ hl hok
  have h5 : (layL s).2.2.tns.length <= 5 := by
   unfold Lay.big at b3
   simp only [Bool.or_eq_false_iff, decide_eq_false_iff_not] at b3
   omega
  have hle := order_len (layL s).2.2.tns.length ((layL s).2.2.stsAt (digs a.data.toList))
  refine ⟨by unfold z2g; omega, fun t ht => ?_⟩
  have := foll_lt _ _ _ hfo t ht
  omega
 ·exact absurd b2 f2
end Go.Proofs.YtkbpocecbcaiiaaGreatDoor
