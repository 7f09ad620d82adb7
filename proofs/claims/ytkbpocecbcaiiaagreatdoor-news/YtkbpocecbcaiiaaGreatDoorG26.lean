import Derived.Test.YtkbpocecbcaiiaaGreatDoorG23
import Derived.Test.YtkbpocecbcaiiaaGreatDoorG25
import Derived.Test.YtkbpocecbcaiiaaGreatDoorG15
/-
  THE WALKS OVER railslaw: a pair of boxes, asked.
-/
namespace Go.Proofs.YtkbpocecbcaiiaaGreatDoor
open Go.RowKit

structure PSm (B : PBx) : Prop where
  sw : B.L.sw.length ≤ 1000
  rts : B.rts.length ≤ 100
  fr : ∀ x, x ∈ B.rts → x.freed ≤ 1000
  wa : B.sws.length ≤ 1000
  st : B.sta.length ≤ 1000
  st9 : ∀ t, t ∈ B.sta → t < 10
  wl : B.waits.length ≤ 1000
  w9 : ∀ t, t ∈ B.waits → t < 9
structure RSm (C : RBx) : Prop where
  sw : C.L.sw.length ≤ 1000
  ll : C.lines.length ≤ C.L.rts.length
  rts : C.L.rts.length ≤ 100
  go : ∀ x, x ∈ C.lines → x.gone ≤ 1000
  wa : C.wanted.length = C.L.sw.length
  fa : C.failed.length = C.L.sw.length
  st : C.sta.length ≤ 1000
  sx : ∀ x, x ∈ C.sta → x ≤ 100
  wl : C.waits.length ≤ 1000
  wx : ∀ x, x ∈ C.waits → x ≤ 100
structure Same (B : PBx) (C : RBx) : Prop where
  locks : B.locksT = C.locksT
  phases : B.phasesT = C.phasesT
  switches : B.switchesT = C.switchesT
  state : B.stateT = C.stateT
  queue : ordStr B.waits = natsStr C.queueT

def PairAt (w : World) (gp : Nat) (B : PBx) (C : RBx) : Prop := ∃ gb gc, w.heap[gp]? = some (.cells #[.pointer (some ⟨gb, 0, none⟩), .pointer (some ⟨gc, 0, none⟩)] 105 (0, 0)) ∧ PBoxAt w gb B ∧ RBoxAt w gc C
theorem PairAt.below {w w' : World} {gp : Nat} {B : PBx} {C : RBx} (h : PairAt w gp B C) (k : Below w.heap.size w w') : PairAt w' gp B C := by
  obtain ⟨gb, gc, e, h1, h2⟩ := h
  exact ⟨gb, gc, (k.block gp (blk_lt e)).trans e, h1.below k, h2.below k⟩

set_option maxHeartbeats 1000000 in
theorem locked_true (gp : Nat) (B : PBx) (C : RBx) (w : World) (h : PairAt w gp B C) (hp : PSm B) (hr : RSm C) (hs : Same B C) :
    Calls Tryz.prog 30 #[.pointer (some ⟨gp, 0, none⟩)] w fun e w' => e = .returned (.bool true) ∧ Below w.heap.size w w' := by
  obtain ⟨gb, gc, hg, h1, h2⟩ := h
  have H1 := hide (pLocks_any gb B w h1 hp.sw hp.rts hp.fr)
  have H2 := hide (fun (wz : World) (hz : Below w.heap.size w wz) => rLocks_any gc C wz (h2.below hz) hr.sw hr.ll hr.rts hr.go)
  have H3 := hide (fun (wz : World) (hz : Below w.heap.size w wz) => pPhases_any gb B wz (h1.below hz) (by have := hp.rts; omega))
  have H4 := hide (fun (wz : World) (hz : Below w.heap.size w wz) => rPhases_any gc C wz (h2.below hz) (by have := hr.ll; have := hr.rts; omega))
  rw [hs.locks] at H1
  rw [hs.phases] at H3
  generalize natsStr C.locksT = t1 at *
  generalize natsStr C.phasesT = t2 at *
  clear hp hr hs h1 h2
  obtain ⟨⟨c0, c1⟩, -, q⟩ := duo0 hg
  have HG := hide hg
  clear hg
  go_enter Tryz.func30, Tryz.ntmps30
  go_wp2_with fail
  refine (unhide H1).mono ?_
  rintro e w1 ⟨rfl, hb1⟩
  have HB1 := hide hb1
  clear c0 c1
  obtain ⟨⟨c0, c1⟩, -, q1⟩ := duo0 ((hb1.block gp q).trans (unhide HG))
  clear hb1
  go_wp2_with fail
  refine (unhide H2 w1 (unhide HB1)).mono ?_
  rintro e w2 ⟨rfl, hb2⟩
  have hb2' := (unhide HB1).trans (hb2.mono (unhide HB1).size)
  have HB2 := hide hb2'
  clear c0 c1 hb2
  obtain ⟨⟨c0, c1⟩, -, q2⟩ := duo0 ((hb2'.block gp q).trans (unhide HG))
  clear hb2'
  go_wp2_with fail
  refine (unhide H3 w2 (unhide HB2)).mono ?_
  rintro e w3 ⟨rfl, hb3⟩
  have hb3' := (unhide HB2).trans (hb3.mono (unhide HB2).size)
  have HB3 := hide hb3'
  clear c0 c1 hb3
  obtain ⟨⟨c0, c1⟩, -, q3⟩ := duo0 ((hb3'.block gp q).trans (unhide HG))
  clear hb3'
  go_wp2_with fail
  refine (unhide H4 w3 (unhide HB3)).mono ?_
  rintro e w4 ⟨rfl, hb4⟩
  have HB4 := hide ((unhide HB3).trans (hb4.mono (unhide HB3).size))
  clear hb4
  go_wp2
  go_ret
  exact ⟨rfl, unhide HB4⟩

set_option maxHeartbeats 1000000 in
theorem lies_true (gp : Nat) (B : PBx) (C : RBx) (w : World) (h : PairAt w gp B C) (hp : PSm B) (hr : RSm C) (hs : Same B C) :
    Calls Tryz.prog 31 #[.pointer (some ⟨gp, 0, none⟩)] w fun e w' => e = .returned (.bool true) ∧ Below w.heap.size w w' := by
  obtain ⟨gb, gc, hg, h1, h2⟩ := h
  have H1 := hide (pSwitches_any gb B w h1 hp.wa)
  have H2 := hide (fun (wz : World) (hz : Below w.heap.size w wz) => rSwitches_any gc C wz (h2.below hz) hr.sw hr.wa hr.fa)
  rw [hs.switches] at H1
  generalize natsStr C.switchesT = t1 at *
  clear hp hr hs h1 h2
  obtain ⟨⟨c0, c1⟩, -, q⟩ := duo0 hg
  have HG := hide hg
  clear hg
  go_enter Tryz.func31, Tryz.ntmps31
  go_wp2_with fail
  refine (unhide H1).mono ?_
  rintro e w1 ⟨rfl, hb1⟩
  have HB1 := hide hb1
  clear c0 c1
  obtain ⟨⟨c0, c1⟩, -, q1⟩ := duo0 ((hb1.block gp q).trans (unhide HG))
  clear hb1
  go_wp2_with fail
  refine (unhide H2 w1 (unhide HB1)).mono ?_
  rintro e w2 ⟨rfl, hb2⟩
  have HB2 := hide ((unhide HB1).trans (hb2.mono (unhide HB1).size))
  clear hb2
  go_wp2
  go_ret
  exact ⟨rfl, unhide HB2⟩

set_option maxHeartbeats 1000000 in
theorem queued_true (gp : Nat) (B : PBx) (C : RBx) (w : World) (h : PairAt w gp B C) (hp : PSm B) (hr : RSm C) (hs : Same B C) :
    Calls Tryz.prog 32 #[.pointer (some ⟨gp, 0, none⟩)] w fun e w' => e = .returned (.bool true) ∧ Below w.heap.size w w' := by
  obtain ⟨gb, gc, hg, h1, h2⟩ := h
  have H1 := hide (pAt_any gb B w h1 hp.st hp.st9)
  have H2 := hide (fun (wz : World) (hz : Below w.heap.size w wz) => rState_any gc C wz (h2.below hz) hr.st hr.sx)
  have H3 := hide (fun (wz : World) (hz : Below w.heap.size w wz) => pQueue_any gb B wz (h1.below hz) hp.wl hp.w9)
  have H4 := hide (fun (wz : World) (hz : Below w.heap.size w wz) => rQueue_any gc C wz (h2.below hz) hr.wl hr.wx)
  rw [hs.state] at H1
  rw [hs.queue] at H3
  generalize natsStr C.stateT = t1 at *
  generalize natsStr C.queueT = t2 at *
  clear hp hr hs h1 h2
  obtain ⟨⟨c0, c1⟩, -, q⟩ := duo0 hg
  have HG := hide hg
  clear hg
  go_enter Tryz.func32, Tryz.ntmps32
  go_wp2_with fail
  refine (unhide H1).mono ?_
  rintro e w1 ⟨rfl, rfl⟩
  go_wp2_with fail
  refine (unhide H2 w1 (Below.refl _ _)).mono ?_
  rintro e w2 ⟨rfl, hb2⟩
  have HB2 := hide hb2
  clear c0 c1
  obtain ⟨⟨c0, c1⟩, -, q2⟩ := duo0 ((hb2.block gp q).trans (unhide HG))
  clear hb2
  go_wp2_with fail
  refine (unhide H3 w2 (unhide HB2)).mono ?_
  rintro e w3 ⟨rfl, rfl⟩
  go_wp2_with fail
  refine (unhide H4 w3 (unhide HB2)).mono ?_
  rintro e w4 ⟨rfl, hb4⟩
  have HB4 := hide ((unhide HB2).trans (hb4.mono (unhide HB2).size))
  clear hb4
  go_wp2
  go_ret
  exact ⟨rfl, unhide HB4⟩

set_option maxHeartbeats 1000000 in
theorem looks_whole (gp : Nat) (B : PBx) (C : RBx) (w : World) (h : PairAt w gp B C) (hp : PSm B) (hr : RSm C) (hs : Same B C) :
    Calls Tryz.prog 14 #[.pointer (some ⟨gp, 0, none⟩), .int .i64 5] w fun e w' => e = .returned (.bool true) ∧ Below w.heap.size w w' := by
  have H1 := hide (locked_true gp B C w h hp hr hs)
  have H2 := hide (fun (wz : World) (hz : Below w.heap.size w wz) => lies_true gp B C wz (h.below hz) hp hr hs)
  have H3 := hide (fun (wz : World) (hz : Below w.heap.size w wz) => queued_true gp B C wz (h.below hz) hp hr hs)
  clear hp hr hs h
  go_enter Tryz.func14, Tryz.ntmps14
  go_wp2_with fail
  refine (unhide H1).mono ?_
  rintro e w1 ⟨rfl, hb1⟩
  have HB1 := hide hb1
  clear hb1
  go_wp2_with fail
  refine (unhide H2 w1 (unhide HB1)).mono ?_
  rintro e w2 ⟨rfl, hb2⟩
  have HB2 := hide ((unhide HB1).trans (hb2.mono (unhide HB1).size))
  clear hb2
  go_wp2_with fail
  refine (unhide H3 w2 (unhide HB2)).mono ?_
  rintro e w3 ⟨rfl, hb3⟩
  have HB3 := hide ((unhide HB2).trans (hb3.mono (unhide HB2).size))
  clear hb3
  go_wp2
  go_ret
  exact ⟨rfl, unhide HB3⟩
end Go.Proofs.YtkbpocecbcaiiaaGreatDoor

/-
  News: the two boxes tell the same at first.
-/
namespace Go.Proofs.YtkbpocecbcaiiaaGreatDoor
open Go.RowKit

theorem big_small {L : Lay} (h : L.big = false) : L.sw.length ≤ 16 ∧ L.rts.length ≤ 12 ∧ L.tns.length ≤ 5 := by
  unfold Lay.big at h
  simp only [Bool.or_eq_false_iff, decide_eq_false_iff_not] at h
  omega
/-- where a text is a layout, both read the same of it. -/
theorem lay_same (s : ByteArray) (h : (errOf s.data.toList).1 = 0) : (layL s).2.2 = layOf s.data.toList ∧ (layOf s.data.toList).big = false := by
  obtain ⟨b1, b2, b3, -⟩ := err0 _ h
  have hs : s.size ≤ 256 := by simpa using b1
  rcases form_eq s hs with ⟨f1, f2, f3, -⟩ | ⟨f1, f2, f3⟩
  · exact ⟨f3.symm, b3⟩
  · exact absurd b2 f2

theorem psm_init {L : Lay} (h : L.big = false) : PSm (PBx.init L) := by
  obtain ⟨h1, h2, h3⟩ := big_small h
  refine ⟨by show L.sw.length ≤ 1000; omega, by show (L.rts.map _).length ≤ 100; simp; omega, ?_, by show (List.replicate L.sw.length PSw.new).length ≤ 1000; simp; omega, by show (List.replicate L.tns.length 0).length ≤ 1000; simp; omega, ?_, by simp [PBx.init], ?_⟩
  · intro x hx
    obtain ⟨r, -, rfl⟩ := List.mem_map.1 (show x ∈ L.rts.map _ from hx)
    exact Nat.zero_le _
  · intro t ht
    rw [List.eq_of_mem_replicate (show t ∈ List.replicate L.tns.length 0 from ht)]; omega
  · intro t ht
    exact absurd (show t ∈ ([] : List Nat) from ht) (by simp)
theorem rsm_init {L : Lay} (h : L.big = false) : RSm (RBx.init L) := by
  obtain ⟨h1, h2, h3⟩ := big_small h
  refine ⟨by show L.sw.length ≤ 1000; omega, by show (List.replicate L.rts.length RLn0).length ≤ L.rts.length; simp, by show L.rts.length ≤ 100; omega, ?_, by simp [RBx.init], by simp [RBx.init], by show (List.replicate L.tns.length 0).length ≤ 1000; simp; omega, ?_, by simp [RBx.init], ?_⟩
  · intro x hx
    rw [List.eq_of_mem_replicate (show x ∈ List.replicate L.rts.length RLn0 from hx)]
    exact Nat.zero_le _
  · intro t ht
    rw [List.eq_of_mem_replicate (show t ∈ List.replicate L.tns.length 0 from ht)]; omega
  · intro t ht
    exact absurd (show t ∈ ([] : List Nat) from ht) (by simp)

theorem getD_rep {α : Type} (n i : Nat) (x d : α) (h : x = d) : (List.replicate n x).getD i d = d := by
  subst h
  rw [List.getD_eq_getElem?_getD, List.getElem?_replicate]
  split <;> rfl
theorem same_init (L : Lay) : Same (PBx.init L) (RBx.init L) := by
  have hr : ∀ s, (RBx.init L).lockedBy s = none := by
    intro s
    refine rfind_none _ _ (fun k hk => ?_)
    unfold RBx.lockB
    have : ((RBx.init L).line k) = RLn0 := getD_rep _ _ _ _ rfl
    rw [this]; rfl
  have hp : ∀ s, (PBx.init L).lockedBy s = none := by
    intro s
    refine rfind_none _ _ (fun k hk => ?_)
    have hk' : k < (L.rts.map PRt.new).length := hk
    unfold PBx.lockB PRt.lockB
    have : ((PBx.init L).rts.getD k (PRt.new Rt0)).ph = 46 := by
      show ((L.rts.map PRt.new).getD k (PRt.new Rt0)).ph = 46
      rw [List.getD_eq_getElem?_getD, List.getElem?_eq_getElem hk']
      simp [PRt.new]
    rw [this]; rfl
  refine ⟨?_, ?_, ?_, rfl, rfl⟩
  · unfold PBx.locksT RBx.locksT
    simp only [hr, hp]
    rfl
  · show (L.rts.map PRt.new).map (·.ph) = (List.replicate L.rts.length RLn0).map (·.ph)
    rw [List.map_map, List.map_replicate]
    apply List.ext_getElem
    · simp
    · intro i h1 h2
      simp [RLn0, PRt.new]
  · unfold PBx.switchesT RBx.switchesT
    have e : (PBx.init L).sws.length = (RBx.init L).L.sw.length := by simp [PBx.init, RBx.init]
    rw [e]
    show (List.range L.sw.length).flatMap _ = (List.range L.sw.length).flatMap _
    have key : ∀ s, s ∈ List.range L.sw.length → (PBx.init L).swT s = (RBx.init L).swT s := by
      intro s hs
      have hs' := List.mem_range.1 hs
      unfold PBx.swT RBx.swT
      show (if L.sw.getD s false then [((List.replicate L.sw.length PSw.new).getD s PSw.new).tell] else []) = (if L.sw.getD s false then [if (List.replicate L.sw.length false).getD s false then 120 else (L.sw.map (fun b => if b then 43 else 0)).getD s 0] else [])
      have g1 : L.sw.getD s false = L.sw[s] := by rw [List.getD_eq_getElem?_getD, List.getElem?_eq_getElem hs']; rfl
      have g2 : ((List.replicate L.sw.length PSw.new).getD s PSw.new).tell = 43 := by rw [getD_rep _ _ _ _ rfl]; rfl
      have g3 : (List.replicate L.sw.length false).getD s false = false := getD_rep _ _ _ _ rfl
      have g4 : (L.sw.map (fun b => if b then 43 else 0)).getD s 0 = if L.sw[s] then 43 else 0 := by
        rw [List.getD_eq_getElem?_getD, List.getElem?_map, List.getElem?_eq_getElem hs']; rfl
      rw [g1, g2, g3, g4]
      cases L.sw[s] <;> rfl
    generalize List.range L.sw.length = l at key
    induction l with
    | nil => rfl
    | cons a l ih =>
      rw [List.flatMap_cons, List.flatMap_cons, key a (List.mem_cons_self ..), ih (fun s hs => key s (List.mem_cons_of_mem _ hs))]

set_option maxHeartbeats 1000000 in
theorem made_any (s : ByteArray) (w : World) :
    Calls Tryz.prog 23 #[.string s] w fun e w' =>
      (((errOf s.data.toList).1 ≠ 0 ∧ e = .returned (.tuple #[.pointer none, .bool true])) ∨
       ((errOf s.data.toList).1 = 0 ∧ ∃ gp, e = .returned (.tuple #[.pointer (some ⟨gp, 0, none⟩), .bool true]) ∧ w.heap.size ≤ gp ∧ PairAt w' gp (PBx.init (layOf s.data.toList)) (RBx.init (layOf s.data.toList)))) ∧ Below w.heap.size w w' := by
  have hF := (load_eq s).1
  have H1 := hide (pNew_of s (loadOf s) (layL s).2.2 0 w (Nat.zero_le _) ((load_any s w (read_paths s)).mono (fun e w' ⟨v, h1, h2, h3, h4⟩ => ⟨v, h1, h2, fun h => ⟨_, LayIn.all (h3 h).1, fun _ _ => Nat.zero_le _⟩, h4⟩)) (fun h => by
    rw [hF] at h
    obtain ⟨e1, e2⟩ := lay_same s h
    rw [e1]; exact big_small e2))
  have H2 := hide (fun (wz : World) => rNew_any s wz form_ok)
  have HLS := hide (lay_same s)
  rw [hF] at H1
  generalize (layL s).2.2 = L1 at *
  generalize layOf s.data.toList = L at *
  generalize (errOf s.data.toList).1 = E at *
  clear hF
  go_enter Tryz.func23, Tryz.ntmps23
  go_wp2_with fail
  refine (unhide H1).mono ?_
  rintro e w1 ⟨hcase, hb1⟩
  have HB1 := hide hb1
  clear hb1
  by_cases h0 : E = 0
  · have H0 := hide h0
    have hL1 := (unhide HLS h0).1
    subst hL1
    rcases hcase with ⟨hx, -⟩ | ⟨-, gb, rfl, hgb, hPB⟩
    · exact absurd h0 hx
    have HPB := hide hPB.at
    clear hPB
    go_wp2_with fail
    refine (unhide H2 w1).mono ?_
    rintro e w2 ⟨hcase, hb2⟩
    rcases hcase with ⟨hx, -⟩ | ⟨-, gc, rfl, hgc, hRB⟩
    · exact absurd h0 hx
    have HRB := hide hRB
    have HPB2 := hide ((unhide HPB).below hb2)
    have HB2 := hide ((unhide HB1).trans (hb2.mono (unhide HB1).size))
    clear hRB hb2 h0
    go_wp2_with (go_at_call 59; refine (num_any 0 _).mono ?_; rintro e w' ⟨rfl, rfl⟩)
    go_ret2
    exact ⟨.inr ⟨unhide H0, _, rfl, (unhide HB2).size, gb, gc, heap_alloc_new _ _, (unhide HPB2).below (below_alloc _ _), (unhide HRB).below (below_alloc _ _)⟩, (unhide HB2).alloc (unhide HB2).size _⟩
  · have H0 := hide h0
    rcases hcase with ⟨-, rfl⟩ | ⟨hx, -⟩
    rotate_left
    · exact absurd hx h0
    go_wp2_with fail
    refine (unhide H2 w1).mono ?_
    rintro e w2 ⟨hcase, hb2⟩
    rcases hcase with ⟨-, rfl⟩ | ⟨hx, -⟩
    rotate_left
    · exact absurd hx h0
    have HB2 := hide ((unhide HB1).trans (hb2.mono (unhide HB1).size))
    clear hb2 h0
    go_wp2_with (go_at_call 59; refine (num_any (E : Nat) _).mono ?_; rintro e w' ⟨rfl, rfl⟩)
    go_ret2
    exact ⟨.inl ⟨unhide H0, rfl⟩, unhide HB2⟩

set_option maxHeartbeats 1000000 in
theorem played_nil (s : ByteArray) (w : World) :
    Calls Tryz.prog 12 #[.string s, .slice none 0 0, .int .i64 5] w fun e w' => e = .returned (.bool true) ∧ Below w.heap.size w w' := by
  have H1 := hide (made_any s w)
  have HBG := hide (fun h => (lay_same s h).2)
  generalize layOf s.data.toList = L at *
  generalize (errOf s.data.toList).1 = E at *
  go_enter Tryz.func12, Tryz.ntmps12
  go_wp2_with fail
  refine (unhide H1).mono ?_
  rintro e w1 ⟨hcase, hb1⟩
  have HB1 := hide hb1
  clear hb1
  rcases hcase with ⟨-, rfl⟩ | ⟨h0, gp, rfl, hgp, hP⟩
  · go_wp2
    go_ret
    exact ⟨rfl, unhide HB1⟩
  · have HLK := hide (looks_whole gp _ _ w1 hP (psm_init (unhide HBG h0)) (rsm_init (unhide HBG h0)) (same_init L))
    clear hP h0
    go_wp2_with fail
    refine (unhide HLK).mono ?_
    rintro e w2 ⟨rfl, hb2⟩
    have HB2 := hide ((unhide HB1).trans (hb2.mono (unhide HB1).size))
    clear hb2
    go_wp2
    go_loopw [8, 9] (fun d i wr => d = .bool true ∧ i = .int .i64 0 ∧ wr = w2) (fun _ _ _ => 0)
    case atStart => exact ⟨rfl, rfl, rfl⟩
    case round =>
      obtain ⟨rfl, rfl, rfl⟩ := hrel
      go_wp2
      go_ret
      exact ⟨rfl, unhide HB2⟩

theorem News_any (s : ByteArray) (w : World) :
    Calls Tryz.prog 3 #[.string s] w fun e w' => e = .returned (.bool true) ∧ Below w.heap.size w w' := by
  have H1 := hide (played_nil s w)
  go_enter Tryz.func3, Tryz.ntmps3
  go_wp2_with fail
  refine (unhide H1).mono ?_
  rintro e w1 ⟨rfl, hb1⟩
  have HB1 := hide hb1
  clear hb1
  go_wp2
  go_ret
  exact ⟨rfl, unhide HB1⟩
end Go.Proofs.YtkbpocecbcaiiaaGreatDoor
