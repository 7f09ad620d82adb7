import Derived.Test.YtkbpocecbcaiiabGreatDoorO57
namespace Go.Proofs.YtkbpocecbcaiiabGreatDoor
open Go.RowKit
def SameU (W V : Wd) (u : Nat) : Prop := V.done.getD u 0 = W.done.getD u 0 /\ V.head.getD u 0 = W.head.getD u 0 /\ V.tail.getD u 0 = W.tail.getD u 0 /\ V.gone.getD u false = W.gone.getD u false
theorem SameU.on {W V : Wd} {u : Nat} (h : SameU W V u) (L : Lay) (s : Nat) : V.onB L u s = W.onB L u s := by
 obtain ⟨a, b, c, d⟩ := h
 unfold Wd.onB Wd.place Wd.stand Wd.rt
 rw [a, b, c, d]
theorem Trs.upd {L : Lay} {C : RBx} {W V : Wd} {e : Nat -> Bool} {t : Nat} (h : Trs L C W e) (hU : LockU C) (ho : ∀ u, u ≠ t -> SameU W V u)
  (hln : ∀ r, (C.line r).ph ≠ 46 -> (C.line r).train = t -> TrL L V (C.sta.getD t 0) t r (C.line r) true) (hno : (∀ r, (C.line r).ph ≠ 46 -> (C.line r).train ≠ t) -> C.sta.getD t 0 = V.done.getD t 0 /\ V.head.getD t 0 < 0)
  (hgn : V.gone.getD t false = true -> (L.tn t).jny.length <= V.done.getD t 0) (hdl : V.done.getD t 0 <= (L.tn t).jny.length) (hhb : -1 <= V.head.getD t 0) (hgr : ∀ s, V.onB L t s = true -> W.onB L t s = true \/ ∃ r, C.lockB s r = true /\ (C.line r).train = t) (ht : t < L.tns.length) :
  Trs L C V (fun u => if u = t then true else e u) := by
 have key : ∀ u s, u < L.tns.length -> V.onB L u s = true -> W.onB L u s = true \/ (u = t /\ ∃ r, C.lockB s r = true /\ (C.line r).train = t) := fun u s _ hs => by
  by_cases hu : u = t
  ·subst hu
   rcases hgr s hs with a | a
   ·exact .inl a
   ·exact .inr ⟨rfl, a⟩
  ·rw [(ho u hu).on] at hs; exact .inl hs
 refine ⟨fun r hr => ?_, fun u hu hn => ?_, fun u hu hg => ?_, fun u hu => ?_, fun u hu => ?_, fun r s u hl hu hs => ?_, fun u v s hu hv h1 h2 => ?_⟩
 ·by_cases hrt : (C.line r).train = t
  ·rw [hrt]
   rw [if_pos rfl]
   exact hln r hr hrt
  ·simp only [if_neg hrt]
   obtain ⟨a, b, c, -⟩ := ho _ hrt
   exact (h.ln r hr).congr a b c
 ·by_cases hut : u = t
  ·subst hut; exact hno hn
  ·obtain ⟨a, b, -⟩ := ho u hut
   rw [a, b]; exact h.no u hu hn
 ·by_cases hut : u = t
  ·subst hut; exact hgn hg
  ·obtain ⟨a, -, -, d⟩ := ho u hut
   rw [a]; exact h.gn u hu (by rw [<- d]; exact hg)
 ·by_cases hut : u = t
  ·subst hut; exact hdl
  ·rw [(ho u hut).1]; exact h.dl u hu
 ·by_cases hut : u = t
  ·subst hut; exact hhb
  ·rw [(ho u hut).2.1]; exact h.hb u hu
 ·rcases key u s hu hs with a | ⟨a, q, b, c⟩
  ·exact h.A r s u hl hu a
  ·have := hU r q s hl b
   subst this
   rw [a, c]
 ·rcases key u s hu h1 with a | ⟨a, q, b, c⟩
  ·rcases key v s hv h2 with a' | ⟨a', q', b', c'⟩
   ·exact h.po u v s hu hv a a'
   ·rw [a', <- c']; exact h.A q' s u b' hu a
  ·rcases key v s hv h2 with a' | ⟨a', q', b', c'⟩
   ·rw [a, <- c]; exact (h.A q s v b hv a').symm
   ·rw [a, a']
theorem Trs.has {L : Lay} {C : RBx} {W : Wd} {e : Nat -> Bool} (h : Trs L C W e) {t : Nat} (ht : t < L.tns.length) (h0 : 0 <= W.head.getD t 0) : ∃ r, (C.line r).ph ≠ 46 /\ (C.line r).train = t := by
 apply Classical.byContradiction
 intro hc
 have := (h.no t ht (fun r hr e => hc ⟨r, hr, e⟩)).2
 omega
theorem Trs.wok {L : Lay} {C : RBx} {W : Wd} {e : Nat -> Bool} (hT : LayT L) (h : Trs L C W e) {t : Nat} (ht : t < L.tns.length) : WOK L W t := by
 refine ⟨h.dl t ht, h.hb t ht, fun h0 => ?_⟩
 obtain ⟨r, hr, e1⟩ := h.has ht h0
 have := h.ln r hr
 rw [e1] at this
 rcases this with a | ⟨-, -, a, b, c⟩ | ⟨a, b⟩ | a
 ·have := a.2.2; omega
 ·have hrl : r < L.rts.length := by rw [<- a.2.2]; exact hT.jr t ht _ a.2.1
  have := plen_pos hT hrl
  refine ⟨a.2.1, ?_, by omega, by omega⟩
  rw [a.2.2, b]; exact this
 ·have h1 := b.hl
  have h2 := b.h0
  have h3 := b.tt
  refine ⟨a.2.1, ?_, by omega, by omega⟩
  rw [a.2.2]
  show (W.head.getD t 0).toNat < plen L r
  omega
 ·have := a.h; omega
theorem want_path {L : Lay} (hT : LayT L) {r i : Nat} (hr : r < L.rts.length) (hi : i < plen L r) (hs : L.sw.getD (psec L r i) false = true) : L.wantsF r (psec L r i) ≠ 0 := by
 have hm := psec_mem hi
 unfold secs at hm
 obtain ⟨y, hy, e⟩ := List.mem_map.1 hm
 unfold Lay.wantsF
 cases hsg : z1l (L.rt r).path (psec L r i) with
 | none =>
  exfalso
  unfold z1l at hsg
  rw [Option.map_eq_none_iff, List.find?_eq_none] at hsg
  exact hsg y hy (by simpa using e)
 | some v =>
  obtain ⟨z, hz, e1, e2⟩ := z41 hsg
  have := ((hT.ok r hr).ps z hz).2
  rw [e1, hs, e2] at this
  simpa using this.symm
theorem entry_ok {L : Lay} {C : RBx} {W : Wd} {e : Nat -> Bool} (hT : LayT L) (eL : C.L = L) (h : Trs L C W e) (hli : Lies L C W) {t r i : Nat} (hp : (C.line r).ph = 103 \/ (C.line r).ph = 116) (htr : (C.line r).train = t) (hi : i < plen L r) (hg : (C.line r).gone <= i) (hr : r < L.rts.length) (hrt : W.rt L t = r) (hno : W.onB L t (psec L r i) = false) : W.entOK L t i := by
 have hlk := lock_iff eL hi (show (C.line r).ph ≠ 46 by omega) hg
 unfold Wd.entOK
 rw [hrt]
 refine ⟨?_, fun hs => ?_⟩
 ·cases hc : W.takenB L ((secs (L.rt r).path).getD i 0) with
  | false => rfl
  | true =>
   exfalso
   obtain ⟨u, hu, ho⟩ := z28.1 hc
   have := h.A r _ u hlk hu ho
   rw [htr] at this
   subst this
   have ho' : W.onB L u (psec L r i) = true := ho
   rw [hno] at ho'
   cases ho'
 ·have := hli r (psec L r i) (want_path hT hr hi hs) (by
   rcases hp with e | e
   ·exact .inl e
   ·exact .inr ⟨e, hlk⟩)
  exact ⟨this.1, this.2.1⟩
structure MoveOK (L : Lay) (C : RBx) (W : Wd) (lm : ByteArray) (t : Nat) (e : Nat -> Bool) : Prop where
 wk : ∀ u, u < L.tns.length -> WOK L W u
 e1 : W.done.getD t 0 < (L.tn t).jny.length -> W.head.getD t 0 < 0 -> pk lm (W.rt L t) = 103 -> ({ W with tail := W.tail.set t (-1) } : Wd).entOK L t 0
 e2 : W.done.getD t 0 < (L.tn t).jny.length -> 0 <= W.head.getD t 0 -> W.tail.getD t 0 = W.head.getD t 0 -> (W.head.getD t 0).toNat + 1 < W.plen L t /\ W.entOK L t ((W.head.getD t 0).toNat + 1)
 tr : Trs L C (W.move L t lm) (fun u => if u = t then true else e u)
 ot : ∀ u, u ≠ t -> SameU W (W.move L t lm) u
 gr : ∀ s, (W.move L t lm).onB L t s = true -> W.onB L t s = true \/ ∃ r, C.lockB s r = true /\ (C.line r).train = t /\ ((C.line r).ph = 103 \/ (C.line r).ph = 116)
theorem own_lamp {L : Lay} {C : RBx} {W : Wd} {e : Nat -> Bool} (hT : LayT L) (hi : Inv C) (eL : C.L = L) (h : Trs L C W e) {t : Nat} (ht : t < L.tns.length) (hd : W.done.getD t 0 < (L.tn t).jny.length) (hh : W.head.getD t 0 < 0) (hl : (C.line (W.rt L t)).ph = 103) : (C.line (W.rt L t)).train = t := by
 have hr : W.rt L t < L.rts.length := hT.jr t ht _ hd
 have hp : (C.line (W.rt L t)).ph ≠ 46 := by omega
 have htr := (hi.tr _ (by rw [eL]; exact hr) hp).1
 rw [eL] at htr
 have hln := h.ln _ hp
 have hng : W.gone.getD t false = false := by
  cases hg : W.gone.getD t false with
  | false => rfl
  | true => have := h.gn t ht hg; omega
 have ho : W.onB L t (L.rt (W.rt L t)).foot = true := by
  rw [z4a]
  exact ⟨hng, .inl ⟨hh, z3k hT ht hd⟩⟩
 have hu : W.onB L (C.line (W.rt L t)).train (L.rt (W.rt L t)).foot = true := by
  rcases hln with a | ⟨-, -, a, b, c⟩ | ⟨-, a⟩ | a
  ·exact on_stand hT htr (h.notGone htr a.2.1) a.2.1 a.2.2
  ·exact on_foot (h.notGone htr a) a (by omega) c
  ·have := a.ph; omega
  ·have := a.ph; omega
 exact h.po _ _ _ htr ht hu ho
theorem move_ok {L : Lay} {C : RBx} {W : Wd} {e : Nat -> Bool} {lm : ByteArray} (hT : LayT L) (hi : Inv C) (eL : C.L = L) (hU : LockU C) (h : Trs L C W e) (hli : Lies L C W) (hwl : WLen L W) (hla : ∀ r, r < L.rts.length -> pk lm r = if (C.line r).ph = 103 then 103 else 114) {t : Nat} (ht : t < L.tns.length) (het : e t = false) : MoveOK L C W lm t e := by
 have hwk : ∀ u, u < L.tns.length -> WOK L W u := fun u hu => h.wok hT hu
 have uniq : ∀ {r q}, (C.line r).ph ≠ 46 -> (C.line q).ph ≠ 46 -> (C.line r).train = t -> (C.line q).train = t -> r = q := fun {r q} h1 h2 h3 h4 => by
  refine hi.one r q ?_ ?_ h1 h2 (h3.trans h4.symm)
  ·rw [<- hi.ll]; exact z14 h1
  ·rw [<- hi.ll]; exact z14 h2
 by_cases c1 : (L.tn t).jny.length <= W.done.getD t 0
 ·have em : W.move L t lm = { W with gone := W.gone.set t true } := by unfold Wd.move; rw [if_pos c1]
  have hot : ∀ u, u ≠ t -> SameU W { W with gone := W.gone.set t true } u := fun u hu => ⟨rfl, rfl, rfl, z0h _ _ _ _ _ hu⟩
  have hno : ∀ s, ({ W with gone := W.gone.set t true } : Wd).onB L t s = true -> False := fun s hs => by
   have := (z4a.1 hs).1
   have e : (W.gone.set t true).getD t false = true := by rw [z0d _ _ _ _ _ (by rw [hwl.g]; exact ht), if_pos rfl]
   have this' : (W.gone.set t true).getD t false = false := this
   rw [e] at this'
   cases this'
  refine ⟨hwk, fun hd => by omega, fun hd => by omega, ?_, ?_, ?_⟩
  ·rw [em]
   exact h.upd hU hot (fun r hr hrt => by
    have := h.ln r hr
    rw [hrt, het] at this
    exact (TrL.congr (W := W) (V := { W with gone := W.gone.set t true }) rfl rfl rfl this).up true) (fun hn => h.no t ht hn) (fun _ => c1) (h.dl t ht) (h.hb t ht) (fun s hs => absurd (hno s hs) id) ht
  ·rw [em]; exact hot
  ·rw [em]; exact fun s hs => absurd (hno s hs) id
 have hd : W.done.getD t 0 < (L.tn t).jny.length := by omega
 have hrl : W.rt L t < L.rts.length := hT.jr t ht _ hd
 have hng : W.gone.getD t false = false := by
  cases hg : W.gone.getD t false with
  | false => rfl
  | true => have := h.gn t ht hg; omega
 by_cases c2 : W.head.getD t 0 < 0
 ·by_cases c3 : pk lm (W.rt L t) = 103
  ·have hph : (C.line (W.rt L t)).ph = 103 := by
    rw [hla _ hrl] at c3
    by_cases e : (C.line (W.rt L t)).ph = 103
    ·exact e
    ·rw [if_neg e] at c3; cases c3
   have hown := own_lamp hT hi eL h ht hd c2 hph
   have hp : (C.line (W.rt L t)).ph ≠ 46 := by omega
   have hln := h.ln _ hp
   rw [hown, het] at hln
   have hA : Ahead L W (C.sta.getD t 0) t (W.rt L t) := by
    rcases hln with a | ⟨a, -⟩ | ⟨-, a⟩ | a
    ·exact a.2.1
    ·cases a
    ·have := a.ph; omega
    ·have := a.ph; omega
   have hg0 : (C.line (W.rt L t)).gone = 0 := (hi.li _ (by rw [eL]; exact hrl)).g0 (by omega)
   have hpp := plen_pos hT hrl
   have hlk := lock_iff eL hpp hp (by omega)
   have em : W.move L t lm = { W with tail := W.tail.set t (-1), head := W.head.set t 0 } := by unfold Wd.move; rw [if_neg c1, if_pos c2, if_pos c3]
   obtain ⟨V, hV⟩ : ∃ V, V = W.move L t lm := ⟨_, rfl⟩
   have v1 : V.done = W.done := by rw [hV, em]
   have v2 : V.head.getD t 0 = 0 := by
    rw [hV, em]
    show (W.head.set t 0).getD t 0 = 0
    rw [z0d _ _ _ _ _ (by rw [hwl.h]; exact ht), if_pos rfl]
   have v3 : V.tail.getD t 0 = -1 := by
    rw [hV, em]
    show (W.tail.set t (-1)).getD t 0 = -1
    rw [z0d _ _ _ _ _ (by rw [hwl.t]; exact ht), if_pos rfl]
   have v4 : V.gone = W.gone := by rw [hV, em]
   have hot : ∀ u, u ≠ t -> SameU W V u := fun u hu => by
    rw [hV, em]
    exact ⟨rfl, z0h _ _ _ _ _ hu, z0h _ _ _ _ _ hu, rfl⟩
   have hrtV : V.rt L t = W.rt L t := by unfold Wd.rt; rw [v1]
   have hAV : Ahead L V (C.sta.getD t 0) t (W.rt L t) := ⟨by rw [v1]; exact hA.1, by rw [v1]; exact hA.2.1, hrtV⟩
   have hgr : ∀ s, V.onB L t s = true -> W.onB L t s = true \/ s = psec L (W.rt L t) 0 := fun s hs => by
    rcases (z4a.1 hs).2 with ⟨a, -⟩ | ⟨-, i, i1, i2, i3⟩
    ·omega
    ·rw [v2] at i2
     rw [v3] at i1
     rcases Int.lt_or_le i 0 with hi0 | hi0
     ·left
      have e : i = -1 := by omega
      rw [e, place_neg, hrtV] at i3
      rw [<- i3]
      exact on_stand hT ht hng hA c2
     ·right
      have e : i = ((0 : Nat) : Int) := by omega
      rw [e, place_at, hrtV] at i3
      exact i3.symm
   refine ⟨hwk, fun _ _ _ => ?_, fun _ h0 => by omega, ?_, ?_, ?_⟩
   ·have hsm : ∀ u s, ({ W with tail := W.tail.set t (-1) } : Wd).onB L u s = W.onB L u s := fun u s => by
     by_cases hut : u = t
     ·subst hut
      unfold Wd.onB
      rw [if_pos c2, if_pos (show ({ W with tail := W.tail.set u (-1) } : Wd).head.getD u 0 < 0 from c2)]
      rfl
     ·exact SameU.on (W := W) (V := { W with tail := W.tail.set t (-1) }) ⟨rfl, rfl, z0h _ _ _ _ _ hut, rfl⟩ L s
    have := entry_ok hT eL h hli (i := 0) (.inl hph) hown hpp (by omega) hrl rfl (by
     cases hc : W.onB L t (psec L (W.rt L t) 0) with
     | false => rfl
     | true =>
      exfalso
      rcases (z4a.1 hc).2 with ⟨-, a⟩ | ⟨a, -⟩
      ·rw [z3k hT ht hd] at a
       exact z4x hT hrl hpp a.symm
      ·omega)
    unfold Wd.entOK at this ⊢
    refine ⟨?_, this.2⟩
    rw [<- this.1]
    unfold Wd.takenB
    congr 1
    funext u
    exact hsm u _
   ·rw [<- hV]
    refine h.upd hU hot (fun r hr hrt => ?_) (fun hn => absurd hown (hn _ hp)) (fun hg => ?_) (by rw [v1]; exact h.dl t ht) (by omega) (fun s hs => ?_) ht
    ·have e := uniq hr hp hrt hown
     subst e
     exact .inr (.inl ⟨rfl, hph, hAV, v2, v3⟩)
    ·rw [v4, hng] at hg; cases hg
    ·rcases hgr s hs with a | a
     ·exact .inl a
     ·exact .inr ⟨_, by rw [a]; exact hlk, hown⟩
   ·rw [<- hV]; exact hot
   ·rw [<- hV]
    intro s hs
    rcases hgr s hs with a | a
    ·exact .inl a
    ·exact .inr ⟨_, by rw [a]; exact hlk, hown, .inl hph⟩
  ·have em : W.move L t lm = W := by unfold Wd.move; rw [if_neg c1, if_pos c2, if_neg c3]
   refine ⟨hwk, fun _ _ a => absurd a c3, fun _ h0 => by omega, ?_, ?_, ?_⟩
   ·rw [em]
    exact h.upd hU (fun u _ => ⟨rfl, rfl, rfl, rfl⟩) (fun r hr hrt => by
     have := h.ln r hr
     rw [hrt, het] at this
     exact this.up true) (fun hn => h.no t ht hn) (fun hg => h.gn t ht hg) (h.dl t ht) (h.hb t ht) (fun s hs => .inl hs) ht
   ·rw [em]; exact fun u _ => ⟨rfl, rfl, rfl, rfl⟩
   ·rw [em]; exact fun s hs => .inl hs
 ·obtain ⟨r, hr, hrt⟩ := h.has ht (by omega)
  have hln := h.ln r hr
  rw [hrt, het] at hln
  obtain ⟨hA, hO⟩ : Ahead L W (C.sta.getD t 0) t r /\ OnIt (C.line r) (W.head.getD t 0) (W.tail.getD t 0) (plen L r) false := by
   rcases hln with a | ⟨a, -⟩ | a | a
   ·exact absurd a.2.2 c2
   ·cases a
   ·exact a
   ·exact absurd a.h c2
  have hrr : W.rt L t = r := hA.2.2
  have hrl' : r < L.rts.length := by rw [<- hrr]; exact hrl
  have hpl : W.plen L t = plen L r := by unfold Wd.plen plen; rw [hrr]
  have hh0 := hO.h0
  have hhl := hO.hl
  have htt := hO.tt
  have hgg := hO.g
  have key : ∀ V : Wd, V = W.move L t lm -> (∀ u, u ≠ t -> SameU W V u) -> V.gone = W.gone -> V.done.getD t 0 <= (L.tn t).jny.length -> -1 <= V.head.getD t 0 -> TrL L V (C.sta.getD t 0) t r (C.line r) true →
    (∀ s, V.onB L t s = true -> W.onB L t s = true \/ ∃ r, C.lockB s r = true /\ (C.line r).train = t /\ ((C.line r).ph = 103 \/ (C.line r).ph = 116)) →
    (W.tail.getD t 0 = W.head.getD t 0 -> (W.head.getD t 0).toNat + 1 < W.plen L t /\ W.entOK L t ((W.head.getD t 0).toNat + 1)) -> MoveOK L C W lm t e := fun V hV hot hgo hdl hhb htl hgr he2 => by
   refine ⟨hwk, fun _ a _ => absurd a c2, fun _ _ a => he2 a, ?_, ?_, ?_⟩
   ·rw [<- hV]
    refine h.upd hU hot (fun q hq hqt => ?_) (fun hn => absurd hrt (hn _ hr)) (fun hg => ?_) hdl hhb (fun s hs => ?_) ht
    ·have e := uniq hq hr hqt hrt
     subst e
     exact htl
    ·rw [hgo, hng] at hg; cases hg
    ·rcases hgr s hs with a | ⟨q, a, b, -⟩
     ·exact .inl a
     ·exact .inr ⟨q, a, b⟩
   ·rw [<- hV]; exact hot
   ·rw [<- hV]; exact hgr
  by_cases c4 : W.tail.getD t 0 = W.head.getD t 0
  ·have hn1 := hO.tn c4
   obtain ⟨k, hk⟩ : ∃ k : Nat, W.head.getD t 0 = k := ⟨(W.head.getD t 0).toNat, by omega⟩
   have hk1 : k + 1 < plen L r := by omega
   have hgk : (C.line r).gone <= k + 1 := by omega
   have hnk : W.onB L t (psec L r (k + 1)) = false := by
    cases hc : W.onB L t (psec L r (k + 1)) with
    | false => rfl
    | true =>
     have := (on_path hT hrl' hng hA hh0 hhl (by omega) hk1).1 hc
     omega
   have em : W.move L t lm = { W with head := W.head.set t (W.head.getD t 0 + 1) } := by unfold Wd.move; rw [if_neg c1, if_neg c2, if_pos c4]
   have v2 : (W.head.set t (W.head.getD t 0 + 1)).getD t 0 = W.head.getD t 0 + 1 := by rw [z0d _ _ _ _ _ (by rw [hwl.h]; exact ht), if_pos rfl]
   refine key { W with head := W.head.set t (W.head.getD t 0 + 1) } em.symm (fun u hu => ⟨rfl, z0h _ _ _ _ _ hu, rfl, rfl⟩) rfl (h.dl t ht) (by show -1 <= (W.head.set t (W.head.getD t 0 + 1)).getD t 0; omega) ?_ ?_ ?_
   ·refine .inr (.inr (.inl ⟨hA, ?_⟩))
    show OnIt (C.line r) ((W.head.set t (W.head.getD t 0 + 1)).getD t 0) (W.tail.getD t 0) (plen L r) true
    rw [v2]
    exact ⟨hO.ph, by omega, by omega, by omega, fun e => by omega, by omega, fun i h1 h2 => hO.m1 i h1 (by rw [if_pos rfl] at h2; rw [if_neg (by decide)]; omega), fun i h1 h2 => by have := hO.m2 i h1 h2; omega⟩
   ·intro s hs
    rcases (z4a.1 hs).2 with ⟨a, -⟩ | ⟨-, i, i1, i2, i3⟩
    ·have a' : (W.head.set t (W.head.getD t 0 + 1)).getD t 0 < 0 := a
     omega
    ·have i1' : W.tail.getD t 0 <= i := i1
     have i2' : i <= (W.head.set t (W.head.getD t 0 + 1)).getD t 0 := i2
     have i3' : W.place L t i = s := i3
     rcases Int.lt_or_le (W.head.getD t 0) i with hi1 | hi1
     ·right
      have e : i = ((k + 1 : Nat) : Int) := by omega
      rw [e, place_at, hrr] at i3'
      refine ⟨r, ?_, hrt, .inr hO.ph⟩
      rw [<- i3']
      exact lock_iff eL hk1 hr hgk
     ·left
      rw [z4a]
      exact ⟨hng, .inr ⟨hh0, i, i1', hi1, i3'⟩⟩
   ·intro _
    rw [hk, Int.toNat_natCast, hpl]
    exact ⟨hk1, entry_ok hT eL h hli (.inr hO.ph) hrt hk1 hgk hrl' hrr hnk⟩
  ·have htl : W.tail.getD t 0 = W.head.getD t 0 - 1 := by omega
   by_cases c5 : W.head.getD t 0 = (plen L r : Int) - 1
   ·obtain ⟨V, hV⟩ : ∃ V, V = W.move L t lm := ⟨_, rfl⟩
    have hmv := hV
    unfold Wd.move at hmv
    rw [if_neg c1, if_neg c2, if_neg c4, hpl, if_pos c5] at hmv
    have v1 : V.done.getD t 0 = W.done.getD t 0 + 1 := by
     rw [hmv]
     show (W.done.set t _).getD t 0 = _
     rw [z0d _ _ _ _ _ (by rw [hwl.d]; exact ht), if_pos rfl]
    have v2 : V.head.getD t 0 = -1 := by
     rw [hmv]
     show (W.head.set t _).getD t 0 = _
     rw [z0d _ _ _ _ _ (by rw [hwl.h]; exact ht), if_pos rfl]
    have v4 : V.gone = W.gone := by rw [hmv]
    refine key V hV (fun u hu => by rw [hmv]; exact ⟨z0h _ _ _ _ _ hu, z0h _ _ _ _ _ hu, z0h _ _ _ _ _ hu, rfl⟩) v4 (by omega) (by omega) ?_ ?_ (fun a => absurd a c4)
    ·refine .inr (.inr (.inr ⟨hO.ph, by rw [v1]; exact hA.1, by omega, ?_, by omega, fun i h1 h2 => hO.m1 i h1 (by rw [if_neg (by decide)]; omega)⟩))
     rw [v1, Nat.add_sub_cancel]
     exact hrr
    ·intro s hs
     left
     rcases (z4a.1 hs).2 with ⟨-, a⟩ | ⟨a, -⟩
     ·unfold Wd.stand at a
      rw [if_neg (by omega), v1, Nat.add_sub_cancel] at a
      have hrr' : (L.tn t).jny.getD (W.done.getD t 0) 0 = r := hrr
      rw [hrr', psec_end hT hrl'] at a
      rw [<- a]
      exact (on_path hT hrl' hng hA hh0 hhl (by omega) (by omega)).2 ⟨by omega, by omega⟩
     ·omega
   ·obtain ⟨V, hV⟩ : ∃ V, V = W.move L t lm := ⟨_, rfl⟩
    have hmv := hV
    unfold Wd.move at hmv
    rw [if_neg c1, if_neg c2, if_neg c4, hpl, if_neg c5] at hmv
    have v3 : V.tail.getD t 0 = W.head.getD t 0 := by
     rw [hmv]
     show (W.tail.set t _).getD t 0 = _
     rw [z0d _ _ _ _ _ (by rw [hwl.t]; exact ht), if_pos rfl]
    have v1 : V.done = W.done := by rw [hmv]
    have v2 : V.head = W.head := by rw [hmv]
    have v4 : V.gone = W.gone := by rw [hmv]
    have hrtV : V.rt L t = W.rt L t := by unfold Wd.rt; rw [v1]
    refine key V hV (fun u hu => by rw [hmv]; exact ⟨rfl, rfl, z0h _ _ _ _ _ hu, rfl⟩) v4 (by rw [v1]; exact h.dl t ht) (by rw [v2]; omega) ?_ ?_ (fun a => absurd a c4)
    ·refine .inr (.inr (.inl ⟨⟨by rw [v1]; exact hA.1, by rw [v1]; exact hA.2.1, hrtV.trans hrr⟩, ?_⟩))
     rw [v2, v3]
     exact ⟨hO.ph, by omega, by omega, .inl rfl, fun _ => by omega, by omega, fun i h1 h2 => hO.m1 i h1 (by rw [if_pos rfl] at h2; rw [if_neg (by decide)]; exact h2), hO.m2⟩
    ·intro s hs
     left
     rcases (z4a.1 hs).2 with ⟨a, -⟩ | ⟨-, i, i1, i2, i3⟩
     ·rw [v2] at a; omega
     ·rw [v3] at i1
      rw [v2] at i2
      rw [z4a]
      refine ⟨hng, .inr ⟨hh0, i, by omega, i2, ?_⟩⟩
      rw [<- i3]
      unfold Wd.place
      rw [hrtV]
theorem move_len {L : Lay} {W : Wd} (h : WLen L W) (t : Nat) (lm : ByteArray) : WLen L (W.move L t lm) := by
 obtain ⟨a, b, c, d⟩ := h
 unfold Wd.move
 repeat' split
 all_goals exact ⟨by simp [a], by simp [b], by simp [c], by simp [d]⟩
theorem move_sw (L : Lay) (W : Wd) (t : Nat) (lm : ByteArray) : (W.move L t lm).aim = W.aim /\ (W.move L t lm).lie = W.lie /\ (W.move L t lm).left = W.left := by
 unfold Wd.move
 repeat' split
 all_goals exact ⟨rfl, rfl, rfl⟩
theorem SameU.refl (W : Wd) (u : Nat) : SameU W W u := ⟨rfl, rfl, rfl, rfl⟩
theorem SameU.trans {A B C : Wd} {u : Nat} (h : SameU A B u) (k : SameU B C u) : SameU A C u := ⟨k.1.trans h.1, k.2.1.trans h.2.1, k.2.2.1.trans h.2.2.1, k.2.2.2.trans h.2.2.2⟩
theorem z38 {α : Type} {l m : List α} {u : Nat} {x d : α} (h1 : u < l.length) (h2 : u < m.length) : (l.set u x).getD u d = (m.set u x).getD u d := by
 rw [z0d _ _ _ _ _ h1, z0d _ _ _ _ _ h2, if_pos rfl, if_pos rfl]
theorem move_cong {L : Lay} {W V : Wd} {u : Nat} (h : SameU W V u) (hW : WLen L W) (hV : WLen L V) (hu : u < L.tns.length) (lm : ByteArray) : SameU (W.move L u lm) (V.move L u lm) u := by
 obtain ⟨a, b, c, d⟩ := h
 have hr : V.rt L u = W.rt L u := by unfold Wd.rt; rw [a]
 have hp : V.plen L u = W.plen L u := by unfold Wd.plen; rw [hr]
 have l1 : u < W.done.length := by rw [hW.d]; exact hu
 have l2 : u < V.done.length := by rw [hV.d]; exact hu
 have l3 : u < W.head.length := by rw [hW.h]; exact hu
 have l4 : u < V.head.length := by rw [hV.h]; exact hu
 have l5 : u < W.tail.length := by rw [hW.t]; exact hu
 have l6 : u < V.tail.length := by rw [hV.t]; exact hu
 have l7 : u < W.gone.length := by rw [hW.g]; exact hu
 have l8 : u < V.gone.length := by rw [hV.g]; exact hu
 unfold Wd.move
 rw [a, b, c, hr, hp]
 repeat' split
 ·exact ⟨a, b, c, z38 l8 l7⟩
 ·exact ⟨a, z38 l4 l3, z38 l6 l5, d⟩
 ·exact ⟨a, b, c, d⟩
 ·exact ⟨a, z38 l4 l3, c, d⟩
 ·exact ⟨z38 l2 l1, z38 l4 l3, z38 l6 l5, d⟩
 ·exact ⟨a, b, z38 l6 l5, d⟩
structure MI (L : Lay) (C : RBx) (W V : Wd) (lm : ByteArray) (go : Nat -> Bool) (k : Nat) : Prop where
 tr : Trs L C V (fun u => decide (u < k))
 sw : V.aim = W.aim /\ V.lie = W.lie /\ V.left = W.left
 wl : WLen L V
 ot : ∀ u, k <= u -> SameU W V u
 mv : ∀ u, u < k -> SameU (if go u then W.move L u lm else W) V u
 gr : ∀ u s, u < L.tns.length -> V.onB L u s = true -> W.onB L u s = true \/ ∃ r, C.lockB s r = true /\ (C.line r).train = u /\ ((C.line r).ph = 103 \/ (C.line r).ph = 116)
theorem Trs.flag {L : Lay} {C : RBx} {W : Wd} {e e' : Nat -> Bool} (h : Trs L C W e) (hi : Inv C) (eL : C.L = L) (he : ∀ u, u < L.tns.length -> e u = true -> e' u = true) : Trs L C W e' := by
 refine ⟨fun r hr => ?_, h.no, h.gn, h.dl, h.hb, h.A, h.po⟩
 have hr' : r < C.L.rts.length := by rw [<- hi.ll]; exact z14 hr
 have ht := (hi.tr r hr' hr).1
 rw [eL] at ht
 have := h.ln r hr
 cases hc : e (C.line r).train with
 | true => rw [hc] at this; rw [he _ ht hc]; exact this
 | false => rw [hc] at this; exact this.up _
theorem lies_sw {L : Lay} {C : RBx} {W V : Wd} (h : Lies L C W) (e1 : V.aim = W.aim) (e2 : V.lie = W.lie) : Lies L C V := by
 intro r x hw hp
 rw [e1, e2]
 exact h r x hw hp
theorem moves_ok {L : Lay} {C : RBx} {W : Wd} {lm : ByteArray} (go : Nat -> Bool) (hT : LayT L) (hi : Inv C) (eL : C.L = L) (hU : LockU C) (h : Trs L C W (fun _ => false)) (hli : Lies L C W) (hwl : WLen L W) (hla : ∀ r, r < L.rts.length -> pk lm r = if (C.line r).ph = 103 then 103 else 114) : ∀ k, k <= L.tns.length -> MI L C W (W.moveN L lm go k) lm go k
 | 0, _ => ⟨h.flag hi eL (fun _ _ a => absurd a (by decide)), ⟨rfl, rfl, rfl⟩, hwl, fun u _ => SameU.refl _ _, fun u hu => absurd hu (Nat.not_lt_zero _), fun u s _ a => .inl a⟩
 | k + 1, hk => by
  have ih := moves_ok go hT hi eL hU h hli hwl hla k (by omega)
  show MI L C W (if go k then (W.moveN L lm go k).move L k lm else W.moveN L lm go k) lm go (k + 1)
  cases hg : go k with
  | false =>
   rw [if_neg (by decide)]
   refine ⟨ih.tr.flag hi eL (fun u _ a => by simp at a ⊢; omega), ih.sw, ih.wl, fun u hu => ih.ot u (by omega), fun u hu => ?_, ih.gr⟩
   by_cases e : u = k
   ·subst e
    rw [hg, if_neg (by decide)]
    exact ih.ot u (Nat.le_refl _)
   ·exact ih.mv u (by omega)
  | true =>
   rw [if_pos rfl]
   have M := move_ok hT hi eL hU ih.tr (lies_sw hli ih.sw.1 ih.sw.2.1) ih.wl hla (t := k) (by omega) (by simp)
   obtain ⟨s1, s2, s3⟩ := move_sw L (W.moveN L lm go k) k lm
   refine ⟨M.tr.flag hi eL (fun u _ a => ?_), ⟨s1.trans ih.sw.1, s2.trans ih.sw.2.1, s3.trans ih.sw.2.2⟩, move_len ih.wl k lm, fun u hu => (ih.ot u (by omega)).trans (M.ot u (by omega)), fun u hu => ?_, fun u s hu ho => ?_⟩
   ·by_cases e : u = k
    ·simp; omega
    ·simp only [if_neg e] at a
     simp at a ⊢; omega
   ·by_cases e : u = k
    ·subst e
     rw [hg, if_pos rfl]
     exact move_cong (ih.ot u (Nat.le_refl _)) hwl ih.wl (by omega) lm
    ·exact (ih.mv u (by omega)).trans (M.ot u e)
   ·by_cases e : u = k
    ·subst e
     rcases M.gr s ho with a | a
     ·exact ih.gr u s hu a
     ·exact .inr a
    ·rw [(M.ot u e).on] at ho
     exact ih.gr u s hu ho
theorem Cyc.line4 {L : Lay} {C : RBx} {W V : Wd} {f : Fr} (h : Cyc L C W f V) {r : Nat} (hp : ((C.s4 f).line r).ph = 103 \/ ((C.s4 f).line r).ph = 116) : (C.s4 f).line r = (C.s2 f).line r := by
 rw [<- h.line3]
 rcases z2r (C.s3 f) f r (C.s3 f).waits.length with e | e
 ·exact e
 ·have : ((C.s4 f).line r).ph = 119 := e
  omega
theorem Cyc.lock4 {L : Lay} {C : RBx} {W V : Wd} {f : Fr} (h : Cyc L C W f V) {r s : Nat} (hp : ((C.s4 f).line r).ph = 103 \/ ((C.s4 f).line r).ph = 116) (hl : (C.s4 f).lockB s r = true) : C.lockB s r = true := by
 refine h.sub2 (s := s) (r := r) ?_
 unfold RBx.lockB at hl ⊢
 rw [h.line4 hp, h.S.l4] at hl
 rw [h.S.l2]
 exact hl
theorem past_stand {L : Lay} (hT : LayT L) {W : Wd} {s t r : Nat} {x : RLn} (hr : r < L.rts.length) (h : PastIt L W s t r x) {y : Nat} (ho : W.onB L t y = true) : y = psec L r (plen L r - 1) := by
 rcases (z4a.1 ho).2 with ⟨-, e⟩ | ⟨e, -⟩
 ·unfold Wd.stand at e
  rw [if_neg (by have := h.d; omega), h.er, psec_end hT hr] at e
  exact e.symm
 ·have := h.h; omega
theorem Cyc.behind {L : Lay} {C : RBx} {W V : Wd} {f : Fr} (h : Cyc L C W f V) {r s : Nat} (hp : PastIt L W s ((C.s4 f).line r).train r ((C.s4 f).line r)) (hg : ((C.s4 f).line r).gone + 1 = plen L r) :
  W.takenB L (bef L r ((C.s4 f).line r).gone) = false /\ ∀ q, (((C.s4 f).line q).ph = 103 \/ ((C.s4 f).line q).ph = 116) -> (C.s4 f).lockB (bef L r ((C.s4 f).line r).gone) q = false := by
 have e4 := h.line4 (.inr hp.ph)
 rw [e4] at hp hg ⊢
 have eL := h.P.eL
 rcases h.s2 r with ⟨c1, c2⟩ | ⟨c1, c2⟩
 ·have := hp.ph; rw [c2] at this; omega
 have hr := h.rt c1
 rcases c2 with c2 | c2 | c2 | c2
 ·have := c2.2.1.1; have := hp.ph; omega
 ·have h1 := c2.2.1.2.h0
  have h2 := hp.h
  rw [c2.2.2] at h2
  omega
 ·have := hp.ph; rw [c2.2] at this; cases this
 ·obtain ⟨hx, hy, htr, k1, k2⟩ := c2
  have hgl := (h.P.inv.li r (by rw [eL]; exact hr)).ps hx.ph
  rw [eL] at hgl
  have hpl : plen L r = (L.rt r).path.length := by unfold plen; rw [z0o]
  rcases Nat.lt_or_ge ((C.line r).gone + 1) (plen L r) with hlt | hge
  ·have hyg := k1 hlt
   have hb : bef L r ((C.s2 f).line r).gone = psec L r (C.line r).gone := by unfold bef; rw [hyg, if_pos (by omega), Nat.add_sub_cancel]
   rw [hb]
   have hlk := lock_iff (C := C) eL (i := (C.line r).gone) (by omega) c1 (Nat.le_refl _)
   refine ⟨?_, fun q hq => ?_⟩
   ·cases hc : W.takenB L (psec L r (C.line r).gone) with
    | false => rfl
    | true =>
     exfalso
     obtain ⟨u, hu, ho⟩ := z28.1 hc
     have := h.P.tr.A r _ u hlk hu ho
     subst this
     have := psec_inj h.T hr (by omega) (by omega) (past_stand h.T hr hx ho)
     omega
   ·cases hc : (C.s4 f).lockB (psec L r (C.line r).gone) q with
    | false => rfl
    | true =>
     exfalso
     have hcq := h.lock4 hq hc
     have := h.P.kj.ki.1 q r _ hcq hlk
     subst this
     obtain ⟨-, i, i1, i2, i3⟩ := lock_ix (h.S.l4.trans eL) hc
     rw [e4, hyg] at i1
     have := psec_inj h.T hr i2 (by omega) i3
     omega
  ·have hge' : (C.line r).gone + 1 = plen L r := by omega
   exfalso
   have := (h.P.be r hx hge').1
   rw [(k2 hge').1] at this
   cases this
theorem behind_moved {L : Lay} {C : RBx} {W V : Wd} {lm : ByteArray} {go : Nat -> Bool} (hT : LayT L) (hi : Inv C) (eL : C.L = L) (h : Trs L C W (fun _ => false)) (hM : MI L C W V lm go L.tns.length) (hwl : WLen L W)
  (hb : ∀ r s, PastIt L W s (C.line r).train r (C.line r) -> (C.line r).gone + 1 = plen L r -> W.takenB L (bef L r (C.line r).gone) = false /\ ∀ q, ((C.line q).ph = 103 \/ (C.line q).ph = 116) -> C.lockB (bef L r (C.line r).gone) q = false) : Behind L C V := by
 intro r hp hg
 have hph := hp.ph
 have hr0 : (C.line r).ph ≠ 46 := by omega
 have hrC : r < C.L.rts.length := by rw [<- hi.ll]; exact z14 hr0
 have hr : r < L.rts.length := by rw [<- eL]; exact hrC
 have ht := (hi.tr r hrC hr0).1
 rw [eL] at ht
 have fin : W.takenB L (bef L r (C.line r).gone) = false -> (∀ q, ((C.line q).ph = 103 \/ (C.line q).ph = 116) -> C.lockB (bef L r (C.line r).gone) q = false) -> V.takenB L (bef L r (C.line r).gone) = false := fun h1 h2 => by
  cases hc : V.takenB L (bef L r (C.line r).gone) with
  | false => rfl
  | true =>
   exfalso
   obtain ⟨u, hu, ho⟩ := z28.1 hc
   rcases hM.gr u _ hu ho with a | ⟨q, a, -, b⟩
   ·have := z28.2 ⟨u, hu, a⟩
    rw [h1] at this
    cases this
   ·rw [h2 q b] at a
    cases a
 rcases h.ln r hr0 with a | a | ⟨hA, hO⟩ | a
 ·have := a.1; omega
 ·cases a.1
 ·generalize htt : (C.line r).train = t at *
  have hmv := hM.mv t ht
  have hh0 := hO.h0
  have hng := h.notGone ht hA
  have hc5 : W.head.getD t 0 = (plen L r : Int) - 1 /\ W.tail.getD t 0 ≠ W.head.getD t 0 := by
   have hvh := hp.h
   have hpl : W.plen L t = plen L r := by unfold Wd.plen plen; rw [hA.2.2]
   cases hgo : go t with
   | false =>
    rw [hgo, if_neg (by decide)] at hmv
    have := hmv.2.1
    omega
   | true =>
    rw [hgo, if_pos rfl] at hmv
    have e2 := hmv.2.1
    unfold Wd.move at e2
    rw [if_neg (by have := hA.2.1; omega), if_neg (by omega)] at e2
    by_cases c4 : W.tail.getD t 0 = W.head.getD t 0
    ·rw [if_pos c4] at e2
     have e3 : (W.head.set t (W.head.getD t 0 + 1)).getD t 0 = W.head.getD t 0 + 1 := by rw [z0d _ _ _ _ _ (by rw [hwl.h]; exact ht), if_pos rfl]
     have e2' : V.head.getD t 0 = (W.head.set t (W.head.getD t 0 + 1)).getD t 0 := e2
     omega
    ·rw [if_neg c4, hpl] at e2
     by_cases c5 : W.head.getD t 0 = (plen L r : Int) - 1
     ·exact ⟨c5, c4⟩
     ·rw [if_neg c5] at e2
      have e2' : V.head.getD t 0 = W.head.getD t 0 := e2
      omega
  have htl : W.tail.getD t 0 = W.head.getD t 0 - 1 := by have := hO.tt; omega
  have hgg := hO.g
  have hg0 : (C.line r).gone = 0 := by omega
  have hp1 : plen L r = 1 := by omega
  have hbf : bef L r (C.line r).gone = (L.rt r).foot := by unfold bef; rw [hg0, if_neg (by omega)]
  rw [hbf]
  have hon := on_foot hng hA hh0 (by omega)
  have hno : ∀ q, C.lockB (L.rt r).foot q = false := fun q => by
   cases hc : C.lockB (L.rt r).foot q with
   | false => rfl
   | true =>
    exfalso
    have h1 := h.A q _ t hc ht hon
    obtain ⟨hq0, i, i1, i2, i3⟩ := lock_ix eL hc
    have hqr := hi.one q r (by rw [<- hi.ll]; exact z14 hq0) hrC hq0 hr0 (by rw [htt]; exact h1.symm)
    subst hqr
    exact z4x hT hr i2 i3
  refine ⟨?_, fun q _ => hno q⟩
  cases hc : V.takenB L (L.rt r).foot with
  | false => rfl
  | true =>
   exfalso
   obtain ⟨u, hu, ho⟩ := z28.1 hc
   rcases hM.gr u _ hu ho with a | ⟨q, a, -, -⟩
   ·have := h.po u t _ hu ht a hon
    subst this
    exact z4x hT hr (by omega) (past_stand hT hr hp ho).symm
   ·rw [hno q] at a
    cases a
 ·obtain ⟨b1, b2⟩ := hb r _ a hg
  exact ⟨fin b1 b2, b2⟩
theorem play_init {L : Lay} (hT : LayT L) (hO : LayOK L) : Play L (RBx.init L) (Wd.begin L) := by
 have hl : ∀ r, (RBx.init L).line r = RLn0 := fun r => z0z _ _ _ _ rfl
 have hp : ∀ r, ((RBx.init L).line r).ph = 46 := fun r => by rw [hl]; rfl
 have hlk : ∀ s r, (RBx.init L).lockB s r = false := fun s r => by unfold RBx.lockB; rw [hp]; rfl
 have d0 : ∀ t, (Wd.begin L).done.getD t 0 = 0 := fun t => z0z _ _ _ _ rfl
 have h0 : ∀ t, t < L.tns.length -> (Wd.begin L).head.getD t 0 = -1 := fun t ht => getD_repq _ _ _ _ ht
 have g0 : ∀ t, (Wd.begin L).gone.getD t false = false := fun t => z0z _ _ _ _ rfl
 have hon : ∀ t s, t < L.tns.length -> (Wd.begin L).onB L t s = true -> s = (L.tn t).start := fun t s ht h => by
  rcases (z4a.1 h).2 with ⟨-, e⟩ | ⟨e, -⟩
  ·unfold Wd.stand at e
   rw [if_pos (d0 t)] at e
   exact e.symm
  ·rw [h0 t ht] at e; omega
 refine ⟨⟨_, init_sim⟩, init_inv hO, rfl, WantOK.init L, KJ.init L, WtOK.init L, hT.s0, ⟨fun r hr => absurd (hp r) hr, fun t ht _ => ⟨?_, by rw [h0 t ht]; omega⟩, fun t ht hg => ?_, fun t ht => by rw [d0]; omega, fun t ht => by rw [h0 t ht]; omega, fun r s t hx => ?_, fun t u s ht hu h1 h2 => hT.st t u ht hu ((hon t s ht h1).symm.trans (hon u s hu h2))⟩, ⟨by simp [Wd.begin], by simp [Wd.begin], by simp [Wd.begin]⟩, ⟨fun x hx => .inl (getD_repq _ _ _ _ (sw_lt hx)), fun x hx => .inl (z0z _ _ _ _ rfl)⟩, fun x => z0z _ _ _ _ rfl, fun x hx => .inl ⟨z0z _ _ _ _ rfl, ?_, z0z _ _ _ _ rfl⟩, fun r x _ h => ?_, fun r h => ?_, ⟨by simp [Wd.begin], by simp [Wd.begin], by simp [Wd.begin], by simp [Wd.begin]⟩, fun x => ?_⟩
 ·rw [d0]; exact z0z _ _ _ _ rfl
 ·rw [g0] at hg; cases hg
 ·rw [hlk] at hx; cases hx
 ·have e1 : (Wd.begin L).lie.getD x 0 = 43 := getD_repq _ _ _ _ (sw_lt hx)
  rw [e1]
  show 43 = (L.sw.map (fun b => if b then 43 else 0)).getD x 0
  have hxl := sw_lt hx
  rw [z05 (by simpa using hxl), List.getElem_map]
  rw [z05 hxl] at hx
  rw [hx]; rfl
 ·have := hp r
  rcases h with h | ⟨h, -⟩ <;> omega
 ·have := hp r
  have := h.ph
  omega
 ·have : (Wd.begin L).left.getD x 0 = 0 := z0z _ _ _ _ rfl
  omega
structure RoundP (L : Lay) (C : RBx) (W : Wd) (ask go : Nat -> Bool) (slow : Nat) : Prop where
 cy : Cyc L C W (L.frOf (frW W L ask L.tns.length)) (W.tickN L (z03 0 L.sw).length)
 ec : C.cyc (frW W L ask L.tns.length) = C.s4 (L.frOf (frW W L ask L.tns.length))
 mi : Mid L (C.s4 (L.frOf (frW W L ask L.tns.length))) (W.turned L C (frW W L ask L.tns.length) slow)
 ss : SameT W (W.turned L C (frW W L ask L.tns.length) slow)
 la : ∀ r, r < L.rts.length -> pk (laS C (frW W L ask L.tns.length)) r = if ((C.s4 (L.frOf (frW W L ask L.tns.length))).line r).ph = 103 then 103 else 114
 mv : ∀ k, k <= L.tns.length -> MI L (C.s4 (L.frOf (frW W L ask L.tns.length))) (W.turned L C (frW W L ask L.tns.length) slow) ((W.turned L C (frW W L ask L.tns.length) slow).moveN L (laS C (frW W L ask L.tns.length)) go k) (laS C (frW W L ask L.tns.length)) go k
 ok : RoundOK C W L ask go slow
 pl : Play L (C.cyc (frW W L ask L.tns.length)) ((W.turned L C (frW W L ask L.tns.length) slow).moveN L (laS C (frW W L ask L.tns.length)) go L.tns.length)
theorem SameT.trans {A B C : Wd} (h : SameT A B) (k : SameT B C) : SameT A C := ⟨k.1.trans h.1, k.2.1.trans h.2.1, k.2.2.1.trans h.2.2.1, k.2.2.2.trans h.2.2.2⟩
theorem round_ok {L : Lay} (hT : LayT L) {C : RBx} {W : Wd} (P : Play L C W) (ask go : Nat -> Bool) {slow : Nat} (hsl : slow < L.T) : RoundP L C W ask go slow := by
 obtain ⟨FF, -⟩ := frW_fact hT P.sl P.sv ask
 obtain ⟨B, hs⟩ := P.sim
 have eL := P.eL
 have S := stages hs P.inv (frW W L ask L.tns.length) (by rw [eL]; exact FF.good)
 rw [eL] at S
 have hT9 : L.T <= 9 := by have := P.inv.lay.T.2; rw [eL] at this; exact this
 have cy : Cyc L C W (L.frOf (frW W L ask L.tns.length)) (W.tickN L (z03 0 L.sw).length) := ⟨hT, P, S, FF.occ, FF.rep, fun j hj => (FF.cm j hj).1, fun x hx => tick_all P.sl hx, z2y W L _⟩
 have ec : C.cyc (frW W L ask L.tns.length) = C.s4 (L.frOf (frW W L ask L.tns.length)) := by
  unfold RBx.cyc
  rw [eL, if_pos FF.good]
 have hwo : WantOK (C.s4 (L.frOf (frW W L ask L.tns.length))) := (s4_ok (by rw [eL]; exact hT.sg) P.wo _).1
 have hmo : ∀ k (hk : k < (z03 0 L.sw).length), pk (moS C (frW W L ask L.tns.length)) k = (C.s4 (L.frOf (frW W L ask L.tns.length))).moveF (L.frOf (frW W L ask L.tns.length)) (z03 0 L.sw)[k] := fun k hk => by
  have := mo_pk (C := C) (s := frW W L ask L.tns.length) (by rw [eL]; exact hwo) (by rw [eL]; exact S.l4.trans eL) (k := k) (by rw [eL]; exact hk)
  simp only [eL] at this
  exact this
 have hss : SameT W (W.turned L C (frW W L ask L.tns.length) slow) := (z2y W L _).trans (z5u _ L _ slow _)
 have hlV := tickN_len P.sl (z03 0 L.sw).length
 have hlW : SwLen L (W.turned L C (frW W L ask L.tns.length) slow) := turnN_len hlV _ _ _
 have htu : ∀ x, L.sw.getD x false = true -> TurnAt (W.tickN L (z03 0 L.sw).length) (W.turned L C (frW W L ask L.tns.length) slow) x ((C.s4 (L.frOf (frW W L ask L.tns.length))).moveF (L.frOf (frW W L ask L.tns.length)) x) slow := fun x hx => by
  obtain ⟨k, hk, e⟩ := pts_ix hx
  have := (turnN_at hlV (moS C (frW W L ask L.tns.length)) slow x _ (Nat.le_refl _)).2 k hk hk e
  rw [hmo k hk, e] at this
  exact this
 have hnot : ∀ x, L.sw.getD x false = false -> ∀ j (hj : j < (z03 0 L.sw).length), (z03 0 L.sw)[j] ≠ x := fun x hx j hj e => by
  have := pts_sw (List.getElem_mem hj)
  rw [e, hx] at this
  cases this
 have hlb : ∀ x, (W.tickN L (z03 0 L.sw).length).left.getD x 0 <= 9 := fun x => by
  have h9 := P.lb x
  by_cases hx : L.sw.getD x false = true
  ·rw [(tick_all P.sl hx).2.2]
   unfold tkF
   split <;> omega
  ·rw [((tickN_at P.sl x _ (Nat.le_refl _)).1 (fun j hj _ => hnot x (by simpa using hx) j hj)).2.2]
   exact h9
 have mi := cy.mid (Wt := W.turned L C (frW W L ask L.tns.length) slow) hsl hT9 hlb (z5u _ L _ slow _) hlW hwo htu (fun x hx => ((turnN_at hlV (moS C (frW W L ask L.tns.length)) slow x _ (Nat.le_refl _)).1 (fun j hj _ => hnot x hx j hj)).2.2)
 have hll : (C.s4 (L.frOf (frW W L ask L.tns.length))).lines.length = L.rts.length := by rw [S.i4.ll, S.l4, eL]
 have la : ∀ r, r < L.rts.length -> pk (laS C (frW W L ask L.tns.length)) r = if ((C.s4 (L.frOf (frW W L ask L.tns.length))).line r).ph = 103 then 103 else 114 := fun r hr => by
  have := lamp_pk (C := C) (s := frW W L ask L.tns.length) (r := r) (by rw [eL, hll]; exact hr)
  rw [eL] at this
  exact this
 have e4 : (C.s4 (L.frOf (frW W L ask L.tns.length))).L = L := S.l4.trans eL
 have kj4 : KJ (C.cyc (frW W L ask L.tns.length)) := P.kj.cyc hs P.inv _
 rw [ec] at kj4
 have hwl : WLen L (W.turned L C (frW W L ask L.tns.length) slow) := by
  obtain ⟨a, b, c, d⟩ := hss
  exact ⟨by rw [a]; exact P.wl.d, by rw [b]; exact P.wl.h, by rw [c]; exact P.wl.t, by rw [d]; exact P.wl.g⟩
 have mv := moves_ok go hT S.i4 e4 kj4.ki.1 mi.tr mi.li hwl la
 have MN := mv L.tns.length (Nat.le_refl _)
 refine ⟨cy, ec, mi, hss, la, mv, ⟨fun t ht => P.tr.wok hT ht, fun x => by have := P.lb x; omega, by rw [eL]; exact FF.good, fun k hk => ?_, fun t ht hgo => ?_⟩, ?_⟩
 ·rw [hmo k hk]
  rcases move_or (C.s4 (L.frOf (frW W L ask L.tns.length))) (L.frOf (frW W L ask L.tns.length)) (z03 0 L.sw)[k] with e | ⟨-, e⟩
  ·exact .inl e
  ·right; right
   rw [z05 hk, <- FF.occ _ (sw_lt (pts_sw (List.getElem_mem hk)))]
   exact e
 ·have ih := mv t (by omega)
  have M := move_ok hT S.i4 e4 kj4.ki.1 ih.tr (lies_sw mi.li ih.sw.1 ih.sw.2.1) ih.wl la (t := t) ht (by simp)
  exact ⟨M.wk, M.e1, M.e2⟩
 ·rw [ec]
  obtain ⟨w1, w2, w3⟩ := MN.sw
  have hsc := hs.cyc P.inv (frW W L ask L.tns.length)
  rw [ec] at hsc
  refine ⟨⟨_, hsc.2.2.1⟩, S.i4, e4, hwo, kj4, P.wt.s4 S, ?_, MN.tr.flag S.i4 e4 (fun _ _ _ => rfl), ⟨by rw [w2]; exact mi.sl.l, by rw [w1]; exact mi.sl.a, by rw [w3]; exact mi.sl.f⟩, ⟨fun x hx => by rw [w2]; exact mi.sv.lie x hx, fun x hx => by rw [w1]; exact mi.sv.aim x hx⟩, fun x => ?_, fun x hx => ?_, lies_sw mi.li w1 w2, ?_, MN.wl, fun x => by rw [w3]; exact mi.lb x⟩
  ·have e3 : (C.s3 (L.frOf (frW W L ask L.tns.length))).sta = C.sta := by
    apply list_ext0
    ·rw [S.i3.st, S.l3, P.inv.st]
    ·intro t _
     rw [cy.s3k.2.2.2.2.1]
     exact cy.sta2 t
   rcases z5a (C.s3 (L.frOf (frW W L ask L.tns.length))) (L.frOf (frW W L ask L.tns.length)) (C.s3 (L.frOf (frW W L ask L.tns.length))).waits.length with ⟨a, -⟩ | a
   ·show L.sound ((C.s3 (L.frOf (frW W L ask L.tns.length))).grantN _ _).sta = true
    rw [a, e3]; exact P.snd
   ·rw [cy.s3k.2.2.2.2.2] at a
    exact a
  ·rw [(s4_late C _).2.1, cy.s3k.2.1]; exact cy.nf1 x
  ·rcases mi.sw x hx with ⟨a, b, c⟩ | ⟨a, b, c⟩
   ·exact .inl ⟨by rw [w1]; exact a, by rw [w2]; exact b, c⟩
   ·exact .inr ⟨by rw [w1]; exact a, by rw [w3]; exact b, c⟩
  ·refine behind_moved hT S.i4 e4 mi.tr MN hwl (fun r s hp hg => ?_)
   have hp' : PastIt L W s ((C.s4 (L.frOf (frW W L ask L.tns.length))).line r).train r ((C.s4 (L.frOf (frW W L ask L.tns.length))).line r) := by
    obtain ⟨a, b, c, -⟩ := hss.gd ((C.s4 (L.frOf (frW W L ask L.tns.length))).line r).train
    exact ⟨hp.ph, by rw [<- a]; exact hp.es, by rw [<- a]; exact hp.d, by rw [<- a]; exact hp.er, by rw [<- b]; exact hp.h, hp.m⟩
   have := cy.behind hp' hg
   rw [hss.taken]
   exact this
end Go.Proofs.YtkbpocecbcaiiabGreatDoor
