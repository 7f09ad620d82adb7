import Derived.Test.YtkbpocecbcaiiaaGreatDoorJ14
import Derived.Test.YtkbpocecbcaiiaaGreatDoorJ33
namespace Go.Proofs.YtkbpocecbcaiiaaGreatDoor
open Go.RowKit
set_option maxHeartbeats 400000 in
theorem AtFirst_any (v : Value) (L : Lay) (w : World) (h : CLay w v L) (hl : L.tns.length <= 1000) :
  Calls Tryz.prog 72 #[v] w fun e w' => ∃ a n c, e = .returned (.slice a n c) /\ Ints w' (.slice a n c) (List.replicate L.tns.length 0) /\ Below w.heap.size w w' := by
 obtain ⟨vs, vr, vt, rfl, -, -, hT⟩ := h
 obtain ⟨at_, ct, rfl, -, -, -⟩ := SlAt.open hT
 clear hT
 obtain ⟨i0, hi0⟩ := info_parts Tryz.infoInt
 have hmk := fun (wz : World) => run_make (P := Tryz.prog) wz 50 3 i0 (.int .i64 0) Tryz.underlying50 hi0.1 hi0.2.1 .i64 .i64 (L.tns.length : Int) (L.tns.length : Int) (by omega) (by omega) (by rw [hi0.2.2.2]; omega) (by omega)
 rw [hi0.2.2.1] at hmk
 simp only [Int.toNat_natCast, Nat.mul_one] at hmk
 have hI := zh (fun (wz : World) => ints_made wz L.tns.length (by unfold maxLen; omega))
 clear hi0
 go_enter Tryz.func72, Tryz.ntmps72
 go_wp2
 go_ret
 refine ⟨_, _, _, rfl, ?_, z06 (o1 := z0i L vs vr (.slice at_ L.tns.length ct)) (Below.refl _ _)⟩
 have := uh hI (w.alloc (z0i L vs vr (.slice at_ L.tns.length ct)))
 simpa [z0i] using this
set_option maxHeartbeats 1000000 in
theorem ReadState_any (v : Value) (L : Lay) (s : ByteArray) (w : World) (h : CLay w v L) (hsm : L.tns.length <= 1000) (hj8 : ∀ t, t ∈ L.tns -> t.jny.length <= 8) :
  Calls Tryz.prog 153 #[v, .string s] w fun e w' => ∃ v', e = .returned (.tuple #[v', .bool (L.stateB s.data.toList)]) /\ (L.stateB s.data.toList = true -> Ints w' v' (digs s.data.toList)) /\ Below w.heap.size w w' := by
 obtain ⟨vh, vr, vt, rfl, -, -, hT⟩ := h
 obtain ⟨aot, capt, rfl, t1, t2, t3⟩ := SlAt.open hT
 clear hT
 unfold maxLen at t2
 obtain ⟨i0, hi0⟩ := info_parts Tryz.infoInt
 have HI := zh hi0
 clear hi0
 generalize hzz : L.stateB s.data.toList = z
 have HZ := zh hzz
 clear hzz
 have hsl : s.data.toList.length = s.size := by simp
 by_cases hne : s.size = L.tns.length
 ·have HN := zh hne
  have hne' : ((s.size : Int) != (L.tns.length : Int)) = false := by simp; omega
  have hsz : s.size <= 1000 := by omega
  have HSL := zh hsl
  clear hne hsl
  go_enter Tryz.func153, Tryz.ntmps153
  go_wp2
  go_loopw [6, 7] (fun r i wr => ∃ k : Nat, k <= s.size /\ i = .int .i64 k /\ wr.ownsRow (w.heap.size + 1) 3 1 r k (intsV ((digs s.data.toList).take k)) ∧
    (∀ k', k' < k -> okD (L.tn k') (s.data.toList.getD k' 0) = true) ∧
    Below (w.heap.size + 1) (w.alloc (z0i L vh vr (.slice aot L.tns.length capt))) wr) (fun _ i _ => s.size - (intOf i).toNat)
  case atStart => exact ⟨0, Nat.zero_le _, rfl, World.ownsRow_nil _ _ _ _, fun k' h => by omega, Below.refl _ _⟩
  case round =>
   obtain ⟨k, hk, rfl, hown, hq, hb⟩ := hrel
   clear hne'
   have HQ := zh hq
   have HB := zh hb
   obtain ⟨q0, q1, q2, q3, q4, q5, qs⟩ := z2u hb
   obtain ⟨p, hp⟩ : ∃ p, p = (digs s.data.toList).take k := ⟨_, rfl⟩
   rw [<- hp] at hown
   have HP := zh hp
   clear hp hq
   by_cases hlt : k < s.size
   ·have hltL : k < L.tns.length := by have := uh HN; omega
    have hj := hj8 _ (List.getElem_mem hltL)
    obtain ⟨g, off, hao, hg, cs, -, hC, hc⟩ := t3 k hltL
    subst hao
    obtain ⟨vj, rfl, hJ⟩ := hC
    have hc1 := hc 1 (by omega)
    rw [<- (z05 hb).cell (p := ⟨g, _, none⟩) hg] at hc1
    obtain ⟨aoj, capj, rfl, j1, j2, -⟩ := SlAt.open hJ
    have HO := zh (okD_at L s k hlt hltL)
    have HS := zh (digs_take s k hlt)
    have l1 : (k : Int) < L.tns.length := by omega
    clear hc t3 hJ hb hj8
    unfold maxLen at j2
    simp at hc1
    generalize L.tns[k].jny = jl at *
    have hcb : s[k].toNat < 256 := s[k].toNat_lt
    obtain ⟨c, hce⟩ : ∃ c, s[k].toNat = c := ⟨_, rfl⟩
    rw [hce] at hcb HO HS
    have HBAD := zh (fun (h : ¬ (48 <= c /\ c <= 48 + jl.length)) => show z = false by
     have hno : okD (L.tn k) (s.data.toList.getD k 0) = false := by rw [uh HO]; simp; omega
     rw [<- uh HZ, Lay.stateB]
     have : (List.range s.data.toList.length).all (fun j => okD (L.tn j) (s.data.toList.getD j 0)) = false :=
      List.all_eq_false.2 ⟨k, List.mem_range.2 (by rw [uh HSL]; exact hlt), by rw [hno]; simp⟩
     rw [this, Bool.and_false])
    have hb3 := zh (z05 (uh HB))
    by_cases c1 : c < 48
    ·have hz := zh (uh HBAD (by omega))
     go_wp2
     go_ret2
     exact ⟨.slice none 0 0, by rw [uh hz]; rfl, fun h => absurd ((uh hz).symm.trans h) (by simp), uh hb3⟩
    by_cases c9 : 57 < c
    ·have hz := zh (uh HBAD (by omega))
     go_wp2
     go_ret2
     exact ⟨.slice none 0 0, by rw [uh hz]; rfl, fun h => absurd ((uh hz).symm.trans h) (by simp), uh hb3⟩
    by_cases c2 : 48 + jl.length < c
    ·have hz := zh (uh HBAD (by omega))
     go_wp2
     go_ret2
     exact ⟨.slice none 0 0, by rw [uh hz]; rfl, fun h => absurd ((uh hz).symm.trans h) (by simp), uh hb3⟩
    ·go_wp2_with (at_builtin; refine wpList_append_own _ rfl _ _ 50 rfl (w.heap.size + 1) 3 i0 (.int .i64 0) 1 8 Tryz.underlying50 (uh HI).1 (uh HI).2.1 (uh HI).2.2.1 (uh HI).2.2.2 rfl (by decide) _ _ _ rfl (hown.alloc _) ⟨wr.heap.size, 0, none⟩ 1 1 [.int .i64 ((c : Int) - 48)] rfl rfl (z0o _ _ _) (z0a rfl) (by unfold maxLen; omega) (by omega) (by simp; omega) ?_; intro v' w1 hown' hgrow _)
     have hb' := z0l (uh HB) (by omega) hown hgrow
     have hok : okD (L.tn k) (s.data.toList.getD k 0) = true := by rw [uh HO]; simp; omega
     have hcc : (c : Int) - 48 = ((c - 48 : Nat) : Int) := by omega
     rw [hcc] at hown'
     clear hgrow hown
     go_wp2
     refine ⟨⟨k + 1, by omega, by go_num, by rw [uh HS, <- uh HP, z0p]; exact hown', fun k' h => ?_, hb'⟩, by simp [intOf]; omega⟩
     rcases Nat.lt_or_ge k' k with h' | h'
     ·exact uh HQ k' h'
     ·obtain rfl : k' = k := by omega
      exact hok
   ·obtain rfl : k = s.size := by omega
    have hfin := zh (Ints.ofOwn hown (by rw [uh HP]; simp [digs]))
    rw [uh HP, List.take_of_length_le (by simp [digs])] at hfin
    have hb3 := zh (z05 (uh HB))
    have hz := zh (show z = true by
     rw [<- uh HZ, Lay.stateB, uh HSL, uh HN]
     rw [<- uh HN, List.all_eq_true.2 (fun j hj => uh HQ j (List.mem_range.1 hj))]; simp [uh HN])
    have dd : ¬ (s.size : Int) < L.tns.length := by have := uh HN; omega
    clear t3 hown HP hb hj8
    go_wp2
    go_ret2
    exact ⟨u6, by rw [uh hz]; rfl, fun _ => uh hfin, uh hb3⟩
 ·have hz := zh (show z = false by rw [<- uh HZ, Lay.stateB, hsl]; simp [hne])
  have hne' : ((s.size : Int) != (L.tns.length : Int)) = true := by simp; omega
  clear hne hsl hj8
  go_enter Tryz.func153, Tryz.ntmps153
  go_wp2
  go_ret2
  exact ⟨.slice none 0 0, by rw [uh hz]; rfl, fun h => absurd ((uh hz).symm.trans h) (by simp), z02 _ _⟩
def PBx.init (L : Lay) : PBx := ⟨L, L.rts.map PRt.new, List.replicate L.sw.length PSw.new, List.replicate L.tns.length 0, []⟩
def pbox (L : Lay) (vs vr vt vl vw vg : Value) : Obj := .cells #[.int .i64 L.T, .int .i64 L.D, .int .i64 L.Q, vs, vr, vt, vl, vw, vg, .slice none 0 0] 87
def PMid (w1 : World) (gb : Nat) (L : Lay) (vs vr vt vg : Value) (wr : World) (vl vw : Value) : Prop :=
 wr.heap[w1.heap.size]? = some (z0i L vs vr vt) /\ wr.heap[gb]? = some (pbox L vs vr vt vl vw vg) /\ Below w1.heap.size w1 wr /\ wr.ownsRow w1.heap.size 3 1 vg L.tns.length (intsV (List.replicate L.tns.length 0))
theorem PMid.append {w1 : World} {gb B : Nat} {L : Lay} {vs vr vt vg vl vw v : Value} {wr w2 : World} {e : TypeId} {size n : Nat} {xs : List Value} {o : Obj} (h : PMid w1 gb L vs vr vt vg wr vl vw) (hown : wr.ownsRow B e size v n xs)
  (hB : w1.heap.size <= B) (hg : (wr.alloc o).grownBy w2 v.ownBlock) (h1 : e ≠ 83) (h2 : e ≠ 87) (h3 : e ≠ 3) : PMid w1 gb L vs vr vt vg w2 vl vw :=
 ⟨(z07 hown hg h1 _ _ _ h.1).trans h.1, (z07 hown hg h2 _ _ _ h.2.1).trans h.2.1,
  (h.2.2.1.alloc h.2.2.1.size o).grown hg (by have := h.2.2.1.size; simp; omega) (fun k hk => by have := (hown.lt k hk).1; omega), z01 h.2.2.2 (z07 hown hg h3)⟩
theorem PMid.below {w1 : World} {gb : Nat} {L : Lay} {vs vr vt vg vl vw : Value} {wr w2 : World} (h : PMid w1 gb L vs vr vt vg wr vl vw) (hb : Below wr.heap.size wr w2) : PMid w1 gb L vs vr vt vg w2 vl vw :=
 ⟨(hb.block _ (z0f h.1)).trans h.1, (hb.block _ (z0f h.2.1)).trans h.2.1, h.2.2.1.trans (hb.mono h.2.2.1.size), z1h h.2.2.2 hb⟩
theorem PMid.typed {w1 : World} {gb : Nat} {L : Lay} {vs vr vt vg vl vw : Value} {wr : World} (h : PMid w1 gb L vs vr vt vg wr vl vw) : Typed wr gb 87 := ⟨_, _, h.2.1⟩
theorem PMid.store {w1 : World} {gb : Nat} {L : Lay} {vs vr vt vg vl vw : Value} {wr : World} (h : PMid w1 gb L vs vr vt vg wr vl vw) (hgb : w1.heap.size < gb) (u : Value) :
  PMid w1 gb L vs vr vt vg (wr.setCell ⟨gb, 6, none⟩ u) u vw /\ PMid w1 gb L vs vr vt vg (wr.setCell ⟨gb, 7, none⟩ u) vl u := by
 have hz : ∀ j, (wr.setCell ⟨gb, j, none⟩ u).heap[w1.heap.size]? = some (z0i L vs vr vt) := fun j => by
  rw [Below.heap_setCell _ _ _ _ (by simp; omega)]; exact h.1
 have hb : ∀ j, Below w1.heap.size w1 (wr.setCell ⟨gb, j, none⟩ u) := fun j => h.2.2.1.setCell (p := ⟨gb, j, none⟩) (by simp; omega) u
 have hi : ∀ j, (wr.setCell ⟨gb, j, none⟩ u).ownsRow w1.heap.size 3 1 vg L.tns.length (intsV (List.replicate L.tns.length 0)) := fun j => z01 h.2.2.2 (Keeps.setCell ⟨gb, j, none⟩ u h.typed (by decide))
 exact ⟨⟨hz 6, z08 u h.2.1, hb 6, hi 6⟩, ⟨hz 7, z08 u h.2.1, hb 7, hi 7⟩⟩
theorem Tryz.infoRs : (Tryz.prog.info? 126).map (fun i => (i.zero, i.size, i.bytes)) = some (some (.agg #[.int .i64 0, .slice none 0 0, .slice none 0 0, .int .u8 0, .int .i64 0, .bool false, .int .i64 0, .slice none 0 0, .int .i64 0]), 9, 120) := by kernel_rfl
theorem Tryz.infoSs : (Tryz.prog.info? 121).map (fun i => (i.zero, i.size, i.bytes)) = some (some (.agg #[.int .u8 0, .int .i64 0, .bool false]), 3, 24) := by kernel_rfl
theorem swRep (k : Nat) : ((List.replicate (k + 1) PSw.new).map swV).flatten = ((List.replicate k PSw.new).map swV).flatten ++ [.int .u8 43, .int .i64 0, .bool false] := by
 rw [List.replicate_succ', List.map_append, List.flatten_append]; rfl
theorem prtsV_snoc (l : List PRt) (qs : List Q3) (h : qs.length = l.length) (x : PRt) (q : Q3) : prtsV (l ++ [x]) (qs ++ [q]) = prtsV l qs ++ [prtV x q] := by
 unfold prtsV
 rw [List.zipWith_append h.symm]; rfl
def ItOf (R : Nat -> Prop) (w1 : World) (l : List Rt) (qs : List Q3) : Prop := ∀ i (h : i < l.length) (h' : i < qs.length), qs[i].2.2 = .slice none 0 0 /\ ∀ w', SameOn R w1 w' -> Items w' qs[i].1 l[i].path /\ Items w' qs[i].2.1 l[i].flank
theorem ItOf.snoc {R : Nat -> Prop} {w1 : World} {l : List Rt} {qs : List Q3} (hl : qs.length = l.length) (h : ItOf R w1 l qs) {x : Rt} {q : Q3} (hq : q.2.2 = .slice none 0 0) (hx : ∀ w', SameOn R w1 w' -> Items w' q.1 x.path /\ Items w' q.2.1 x.flank) : ItOf R w1 (l ++ [x]) (qs ++ [q]) := by
 intro i a b
 by_cases hi : i < l.length
 ·have h1 : (l ++ [x])[i] = l[i] := List.getElem_append_left hi
  have h2 : (qs ++ [q])[i] = qs[i]'(by omega) := List.getElem_append_left (by omega)
  rw [h1, h2]; exact h i hi (by omega)
 ·have : i = l.length := by simp at a; omega
  subst this
  have h1 : (l ++ [x])[l.length] = x := by simp
  have h2 : (qs ++ [q])[l.length] = q := by simp [<- hl]
  rw [h1, h2]; exact ⟨hq, hx⟩
theorem PMid.fin {R : Nat -> Prop} {w1 wr : World} {gb B n : Nat} {L : Lay} {vs vr vt vg vl vw : Value} {qs : List Q3} (hM : PMid w1 gb L vs vr vt vg wr vl vw) (hB : w1.heap.size <= B) (hn : n <= w1.heap.size) (hgb : w1.heap.size < gb)
  (hL : LayIn R w1 (.agg #[.int .i64 L.T, .int .i64 L.D, .int .i64 L.Q, vs, vr, vt]) L) (hR : ∀ k, R k -> n <= k)
  (hw : wr.ownsRow B 121 3 vw L.sw.length ((List.replicate L.sw.length PSw.new).map swV).flatten)
  (hl : wr.ownsRow B 126 9 vl L.rts.length (prtsV (L.rts.map PRt.new) qs).flatten) (hq : qs.length = L.rts.length) (hI : ItOf R w1 L.rts qs) :
  PBoxIn wr (fun b => n <= b /\ b < wr.heap.size) gb (PBx.init L) := by
 have hsR : SameOn R w1 wr := fun k hk => hM.2.2.1.block k (hL.1 k hk)
 have hz := hM.2.2.1.size
 have hqn : ∀ q, q ∈ qs -> q.2.2 = .slice none 0 0 := fun q h => by
  obtain ⟨i, hi, rfl⟩ := List.getElem_of_mem h
  exact (hI i (by omega) hi).1
 have ho : ∀ b, (b = gb \/ vl.ownBlock = some b \/ vw.ownBlock = some b \/ vg.ownBlock = some b \/ (Value.slice none 0 0).ownBlock = some b \/ ∃ q, q ∈ qs /\ q.2.2.ownBlock = some b) -> w1.heap.size <= b /\ b < wr.heap.size := by
  rintro b (rfl | h | h | h | h | ⟨q, hq, h⟩)
  ·exact ⟨by omega, z0f hM.2.1⟩
  ·have := hl.lt b h; omega
  ·have := hw.lt b h; omega
  ·have := hM.2.2.2.lt b h; omega
  ·cases h
  ·rw [hqn q hq] at h; cases h
 refine ⟨R, vs, vr, vt, vl, vw, vg, .slice none 0 0, qs, ?_, fun b hb => ⟨hR b hb, Nat.lt_of_lt_of_le (hL.1 b hb) hz⟩, fun b hb => hb.2, fun b hb => ⟨by have := (ho b hb).1; omega, (ho b hb).2⟩⟩
 refine ⟨hM.2.1, hL.same hsR hz, ?_, ?_, ?_, ?_, ?_, ?_, World.ownsRow_nil _ _ _ _, ?_, ?_, ?_⟩
 ·intro w' hs i a b
  have a' : i < L.rts.length := by simpa [PBx.init] using a
  have := (hI i a' b).2 w' (hsR.trans hs)
  simpa [PBx.init, PRt.new] using this
 ·have := z2f hl (Nat.zero_le _)
  simpa [PBx.init] using this
 ·simpa [PBx.init] using hq
 ·intro i a b
  have := (hI i (by omega) a).1
  rw [this]
  simp only [PBx.init, List.getElem_map, PRt.new]
  exact World.ownsRow_nil _ _ _ _
 ·have := z2f hw (Nat.zero_le _)
  simpa [PBx.init] using this
 ·have := z2f hM.2.2.2 (Nat.zero_le _)
  simpa [PBx.init] using this
 ·intro i j hi hj _ b hb
  rw [hqn _ (List.getElem_mem hi)] at hb; cases hb
 ·intro b _ h; cases h
 ·intro b hb hRb
  have := (ho b hb).1
  have := hL.1 b hRb
  omega
theorem own_made (w : World) (base n : Nat) (hb : base <= w.heap.size) (hn : n <= maxLen) : (w.alloc (.cells (madeCells #[.int .i64 0] n) 3)).ownsRow base 3 1 (.slice (some ⟨w.heap.size, 0, none⟩) n n) n (intsV (List.replicate n 0)) := by
 refine ⟨by simp [intsV], .inr ⟨w.heap.size, n, _, rfl, hb, heap_alloc_new w _, Nat.le_refl _, hn, ?_, ?_⟩⟩
 ·have := congrArg List.length (toList_madeCells_one (.int .i64 0) n)
  simpa using this
 ·rw [toList_madeCells_one]; simp [intsV]
set_option maxHeartbeats 400000 in
theorem AtFirst_own (v : Value) (L : Lay) (w : World) (h : CLay w v L) (hl : L.tns.length <= 1000) :
  Calls Tryz.prog 72 #[v] w fun e w' => ∃ a n c, e = .returned (.slice a n c) /\ w'.ownsRow w.heap.size 3 1 (.slice a n c) L.tns.length (intsV (List.replicate L.tns.length 0)) /\ Below w.heap.size w w' := by
 obtain ⟨vs, vr, vt, rfl, -, -, hT⟩ := h
 obtain ⟨at_, ct, rfl, -, -, -⟩ := SlAt.open hT
 clear hT
 obtain ⟨i0, hi0⟩ := info_parts Tryz.infoInt
 have hmk := fun (wz : World) => run_make (P := Tryz.prog) wz 50 3 i0 (.int .i64 0) Tryz.underlying50 hi0.1 hi0.2.1 .i64 .i64 (L.tns.length : Int) (L.tns.length : Int) (by omega) (by omega) (by rw [hi0.2.2.2]; omega) (by omega)
 rw [hi0.2.2.1] at hmk
 simp only [Int.toNat_natCast, Nat.mul_one] at hmk
 have hI := zh (fun (wz : World) (hz : w.heap.size <= wz.heap.size) => own_made wz w.heap.size L.tns.length hz (by unfold maxLen; omega))
 clear hi0
 go_enter Tryz.func72, Tryz.ntmps72
 go_wp2
 go_ret
 refine ⟨_, _, _, rfl, ?_, z06 (o1 := z0i L vs vr (.slice at_ L.tns.length ct)) (Below.refl _ _)⟩
 have := uh hI (w.alloc (z0i L vs vr (.slice at_ L.tns.length ct))) (by simp)
 simpa [z0i] using this
set_option maxHeartbeats 4000000 in
theorem pNew_of (s : ByteArray) (F : Nat × Nat) (L : Lay) (n : Nat) (w : World) (hnw : n <= w.heap.size)
  (hload : Calls Tryz.prog 71 #[.string s] w fun e w' => ∃ v, e = .returned (.tuple #[v, .int .i64 F.1, .int .i64 F.2]) /\ LShape v /\ (F.1 = 0 -> ∃ R, LayIn R w' v L /\ ∀ k, R k -> n <= k) /\ Below w.heap.size w w')
  (hsm : F.1 = 0 -> L.sw.length <= 16 /\ L.rts.length <= 12 /\ L.tns.length <= 5) :
  Calls Tryz.prog 33 #[.string s] w fun e w' =>
   ((F.1 ≠ 0 /\ e = .returned (.tuple #[.pointer none, .int .i64 F.1])) ∨
    (F.1 = 0 /\ ∃ g, e = .returned (.tuple #[.pointer (some ⟨g, 0, none⟩), .int .i64 0]) /\ w.heap.size <= g /\ PBoxIn w' (fun b => n <= b /\ b < w'.heap.size) g (PBx.init L))) /\ Below w.heap.size w w' := by
 have HLD := zh hload
 have HSM := zh hsm
 clear hload hsm
 go_enter Tryz.func33, Tryz.ntmps33
 go_wp2_with fail
 refine (uh HLD).mono ?_
 rintro e w1 ⟨v, rfl, ⟨T, D, Q, a1, a2, a3, n1, n2, n3, d1, d2, d3, rfl⟩, hL, hb⟩
 have HB := zh hb
 have hbs := hb.size
 by_cases h0 : F.1 = 0
 ·have hz : ((F.1 : Int) != 0) = false := by simp [h0]
  obtain ⟨hs1, hs2, hs3⟩ := uh HSM h0
  obtain ⟨R, hLI, hRn⟩ := hL h0
  obtain ⟨vh, vr, vt, he, hH, hR, hT⟩ := hLI.2 w1 (fun _ _ => rfl)
  have HL := zh (hLI.2 w1 (fun _ _ => rfl))
  have HRN := zh hRn
  simp only [Value.agg.injEq, Array.mk.injEq, List.cons.injEq, and_true, true_and, Value.int.injEq] at he
  obtain ⟨rfl, rfl, rfl, rfl, rfl, rfl⟩ := he
  obtain ⟨b1, c1, hv1, -, m1, -⟩ := SlAt.open hH
  obtain ⟨b2, c2, hv2, -, m2, -⟩ := SlAt.open hR
  obtain ⟨b3, c3, hv3, -, m3, -⟩ := SlAt.open hT
  simp only [Value.slice.injEq] at hv1 hv2 hv3
  obtain ⟨rfl, rfl, rfl⟩ := hv1
  obtain ⟨rfl, rfl, rfl⟩ := hv2
  obtain ⟨rfl, rfl, rfl⟩ := hv3
  unfold maxLen at m1 m2 m3
  have HLI := zh hLI
  have H0 := zh h0
  have hnw1 : n <= w1.heap.size := Nat.le_trans hnw hbs
  clear hH hR hT hL hb HSM HLD h0 hLI hRn
  obtain ⟨i1, hi1⟩ := info_parts Tryz.infoRs
  have HIL := zh hi1
  obtain ⟨i2, hi2⟩ := info_parts Tryz.infoSs
  have HIB := zh hi2
  clear hi1 hi2
  have HAF := zh (fun (wz : World) (hz : Below w1.heap.size w1 wz) => AtFirst_own _ L wz ((uh HL).below hz) (by omega))
  have HL0 := zh (heap_alloc_new w1 (z0i L (.slice a1 L.sw.length d1) (.slice a2 L.rts.length d2) (.slice a3 L.tns.length d3)))
  go_wp2
  go_cut [7] (fun v wx => ∃ gb ag ng cg, v = .pointer (some ⟨gb, 0, none⟩) /\ w1.heap.size < gb /\ PMid w1 gb L (.slice a1 L.sw.length d1) (.slice a2 L.rts.length d2) (.slice a3 L.tns.length d3) (.slice ag ng cg) wx (.slice none 0 0) (.slice none 0 0))
  case first =>
   go_region_with (go_at_call 72; refine (uh HAF _ ?_).mono ?_; (first | exact ((z02 w1 _).drew) | exact (z02 w1 _)); rintro e w3 ⟨ag, ng, cg, rfl, hI3, hb3⟩; have hl3 := (hb3.block w1.heap.size (by simp)).trans (uh HL0); obtain ⟨⟨z0, z1, z2, z3, z4, z5⟩, -, qz⟩ := six0 hl3)
   all_goals
    have hb1 : Below w1.heap.size w1 w3 := ((z02 w1 (z0i L (.slice a1 L.sw.length d1) (.slice a2 L.rts.length d2) (.slice a3 L.tns.length d3)))).trans (⟨hb3.os, hb3.tape, hb3.output, hb3.size, fun k hk => hb3.block k (by simp; omega)⟩)
    have HP3 := zh (And.intro hl3 (And.intro hI3 hb1))
    clear hl3 hI3 hb3 hb1
    go_wp2_with fail
    go_meet
    exact ⟨w3.heap.size, ag, ng, cg, rfl, qz, (Below.heap_alloc _ _ _ qz).trans (uh HP3).1, heap_alloc_new _ _, (uh HP3).2.2.alloc (uh HP3).2.2.size _, z2f ((uh HP3).2.1.alloc _) (by simp)⟩
  case rest =>
   obtain ⟨gb, ag, ng, cg, rfl, hgb, hM⟩ := hcut
   have hmc := hM.2.2.1.size
   have HM0 := zh hM
   obtain ⟨⟨z0, z1, z2, z3, z4, z5⟩, -, qp⟩ := six0 hM.1
   have hgc := z0f hM.2.1
   clear hM
   go_wp2
   go_loopw [27] (fun i wr => ∃ k : Nat, ∃ vw, i = .int .i64 k /\ k <= L.sw.length /\ PMid w1 gb L (.slice a1 L.sw.length d1) (.slice a2 L.rts.length d2) (.slice a3 L.tns.length d3) (.slice ag ng cg) wr (.slice none 0 0) vw ∧
     wr.ownsRow wc.heap.size 121 3 vw k ((List.replicate k PSw.new).map swV).flatten /\ wc.heap.size <= wr.heap.size) (fun i _ => L.sw.length - (intOf i).toNat)
   case atStart => exact ⟨0, _, rfl, Nat.zero_le _, uh HM0, World.ownsRow_nil _ _ _ _, Nat.le_refl _⟩
   case round =>
    clear HM0 z0 z1 z2 z3 z4 z5
    obtain ⟨k, vw, rfl, hk, hM, hw, hcr⟩ := hrel
    have hmm := hM.2.2.1.size
    have HM := zh hM
    obtain ⟨⟨z0, z1, z2, z3, z4, z5⟩, -, qp⟩ := six0 hM.1
    obtain ⟨⟨y0, y1, y2, y3, y4, y5, y6, y7, y8, y9⟩, ⟨f6, f7, f8, f9⟩, qs⟩ := box10 hM.2.1
    clear hM
    by_cases hlt : k < L.sw.length
    ·have l1 : (k : Int) < L.sw.length := by omega
     obtain ⟨aw, cw, hvw⟩ := z03 hw
     subst hvw
     go_wp2_with (at_builtin; refine wpList_append_own _ rfl _ _ 85 rfl wc.heap.size 121 i2 (.agg #[.int .u8 0, .int .i64 0, .bool false]) 3 24 Tryz.underlying85 (uh HIB).1 (uh HIB).2.1 (uh HIB).2.2.1 (uh HIB).2.2.2 rfl (by decide) _ _ _ rfl (hw.alloc _) ⟨wr.heap.size, 0, none⟩ 1 1 [.int .u8 43, .int .i64 0, .bool false] rfl rfl (z3n _ [.int .u8 43, .int .i64 0, .bool false] _) (by simp [Value.oneCell']) (by unfold maxLen; omega) (by omega) (by simp; omega) ?_; intro v4 w4 hown4 hgrow4 _; have HM4 := zh ((uh HM).append hw hmc hgrow4 (by decide) (by decide) (by decide)); obtain ⟨⟨r0, r1, r2, r3, r4, r5, r6, r7, r8, r9⟩, ⟨g6, g7, g8, g9⟩, qs4⟩ := box10 (uh HM4).2.1; obtain ⟨aw', cw', hv'⟩ := z03 hown4; subst hv')
     refine ⟨⟨k + 1, _, by go_num, by omega, ((uh HM4).store hgb _).2, ?_, ?_⟩, by simp [intOf]; omega⟩
     ·rw [swRep]
      exact z01 hown4 (Keeps.setCell ⟨gb, 7, none⟩ _ (uh HM4).typed (by decide))
     ·have := hgrow4.size
      simp [World.setCell] at this ⊢
      omega
    ·obtain rfl : k = L.sw.length := by omega
     have HW := zh hw
     obtain ⟨aw, cw, hvw⟩ := z03 hw
     subst hvw
     clear hw
     have l1 : (L.sw.length : Int) <= L.sw.length := by omega
     go_wp2
     go_loopw [43] (fun i wx => ∃ k : Nat, ∃ vl qv, i = .int .i64 k /\ k <= L.rts.length /\ PMid w1 gb L (.slice a1 L.sw.length d1) (.slice a2 L.rts.length d2) (.slice a3 L.tns.length d3) (.slice ag ng cg) wx vl (.slice aw L.sw.length cw) ∧
       wx.ownsRow wc.heap.size 121 3 (.slice aw L.sw.length cw) L.sw.length ((List.replicate L.sw.length PSw.new).map swV).flatten /\ wx.ownsRow wc.heap.size 126 9 vl k (prtsV ((L.rts.take k).map PRt.new) qv).flatten ∧
       qv.length = k /\ ItOf R w1 (L.rts.take k) qv /\ wc.heap.size <= wx.heap.size) (fun i _ => L.rts.length - (intOf i).toNat)
     case atStart => exact ⟨0, _, [], rfl, Nat.zero_le _, uh HM, uh HW, World.ownsRow_nil _ _ _ _, rfl, fun i h => absurd h (by simp), hcr⟩
     case round =>
      clear HM HW z0 z1 z2 z3 z4 z5 y0 y1 y2 y3 y4 y5 y6 y7 y8 y9 f6 f7 f8 f9 qs qp hmm hcr
      obtain ⟨k, vl, qv, rfl, hk, hM, hw, hl, hql, hA, hcr⟩ := hrel
      have hmm := hM.2.2.1.size
      have HM := zh hM
      obtain ⟨⟨y0, y1, y2, y3, y4, y5, y6, y7, y8, y9⟩, ⟨f6, f7, f8, f9⟩, qs⟩ := box10 hM.2.1
      by_cases hlt : k < L.rts.length
      ·have l1 : (k : Int) < L.rts.length := by omega
       have l0 : (0 : Int) <= k := by omega
       obtain ⟨gx, ox, cx, vp, vf, hax, hgx, hcx, hit⟩ := (uh HLI).route k hlt
       simp only [Value.slice.injEq, true_and] at hax
       obtain ⟨rfl, rfl⟩ := hax
       have hc0 := hcx 0 (by omega)
       have hc1 := hcx 1 (by omega)
       have hc2 := hcx 2 (by omega)
       rw [<- hM.2.2.1.cell (p := ⟨gx, _, none⟩) hgx] at hc0 hc1 hc2
       simp at hc0 hc1 hc2
       obtain ⟨hP, hF⟩ := hit w1 (fun _ _ => rfl)
       have HIt := zh hit
       obtain ⟨ap, cp, rfl, -⟩ := SlAt.open hP
       obtain ⟨af, cf, rfl, -⟩ := SlAt.open hF
       have hgxr : gx < wr.heap.size := by omega
       obtain ⟨al, cl, hvl⟩ := z03 hl
       subst hvl
       have HTK := zh (show L.rts.take (k + 1) = L.rts.take k ++ [L.rts[k]] from List.take_succ_eq_append_getElem hlt)
       have hkl : qv.length = (L.rts.take k).length := by simp; omega
       have HKL := zh hkl
       have HQL := zh hql
       have HA := zh hA
       clear hcx hP hF hM hA hit hkl hql
       generalize L.rts[k] = X at *
       go_wp2
       go_region_law (refine z0z rfl (.tmp 51) (.tmp 54) 84 rfl wc.heap.size 126 i1 (.agg #[.int .i64 0, .slice none 0 0, .slice none 0 0, .int .u8 0, .int .i64 0, .bool false, .int .i64 0, .slice none 0 0, .int .i64 0]) 9 120 Tryz.underlying84 (uh HIL).1 (uh HIL).2.1 (uh HIL).2.2.1 (uh HIL).2.2.2 rfl (by decide) (.slice al k cl) _ _ (by simp [Act.eval]) (((hl.alloc _).alloc _).drew) ⟨wr.heap.size + 1, 0, none⟩ 1 1 [.int .i64 X.foot, .slice ap X.path.length cp, .slice af X.flank.length cf, .int .u8 46, .int .i64 0, .bool false, .int .i64 0, .slice none 0 0, .int .i64 0] (by simp [Act.eval]) rfl (z0h (wr.alloc _) [.int .i64 X.foot, .slice ap X.path.length cp, .slice af X.flank.length cf, .int .u8 46, .int .i64 0, .bool false, .int .i64 0, .slice none 0 0, .int .i64 0] _ _ (by simp)) (by simp [Value.oneCell']) (by unfold maxLen; omega) (by omega) (by simp; omega) ?_; intro v' w4 hown4 hgrow4; have hg2 := z23 hgrow4; have HM4 := zh (((uh HM).below (z02 wr _)).append (hl.alloc _) hmc hg2 (by decide) (by decide) (by decide)); obtain ⟨⟨r0, r1, r2, r3, r4, r5, r6, r7, r8, r9⟩, ⟨g6, g7, g8, g9⟩, qs4⟩ := box10 (uh HM4).2.1; obtain ⟨al', cl', hv'⟩ := z03 hown4; subst hv')
       all_goals
        have kk := fun e (n1 : 126 ≠ e) (n2 : 87 ≠ e) => ((Keeps.alloc e wr _).trans (z07 (hl.alloc _) hg2 n1)).trans (Keeps.setCell ⟨gb, 6, none⟩ (.slice al' (k + 1) cl') (uh HM4).typed n2)
        have ho5 := z01 hown4 (Keeps.setCell ⟨gb, 6, none⟩ (.slice al' (k + 1) cl') (uh HM4).typed (by decide))
        have hw5 := z01 hw (kk _ (by decide) (by decide))
        have hsz5 := hg2.size
        clear hl hw hown4 hgrow4 hg2
        go_wp2
        refine ⟨⟨k + 1, _, qv ++ [(.slice ap X.path.length cp, .slice af X.flank.length cf, .slice none 0 0)], by go_num, by omega, ((uh HM4).store hgb _).1, hw5, ?_, by simp [uh HQL], ?_, ?_⟩, by simp [intOf]; omega⟩
        ·rw [uh HTK, List.map_append]
         have e := prtsV_snoc ((L.rts.take k).map PRt.new) qv (by rw [List.length_map]; exact uh HKL) (PRt.new X) (.slice ap X.path.length cp, .slice af X.flank.length cf, .slice none 0 0)
         rw [show [X].map PRt.new = [PRt.new X] from rfl, e, List.flatten_append]
         simpa [prtV, PRt.new] using ho5
        ·rw [uh HTK]
         exact (uh HA).snoc (uh HKL) rfl (uh HIt)
        ·simp [World.setCell] at hsz5 ⊢
         omega
      ·obtain rfl : k = L.rts.length := by omega
       rw [List.take_length] at hA hl
       have HQ := zh (hM.fin hmc hnw1 hgb (uh HLI) (uh HRN) hw hl hql hA)
       have HBF := zh ((uh HB).trans (hM.2.2.1.mono hbs))
       have l1 : (L.rts.length : Int) <= L.rts.length := by omega
       clear hM hA hl hw
       go_wp2
       go_ret2
       exact ⟨.inr ⟨uh H0, gb, rfl, by omega, uh HQ⟩, uh HBF⟩
 ·have hz : ((F.1 : Int) != 0) = true := by simp [h0]
  have H0 := zh h0
  clear hL hb h0
  go_wp2
  go_ret2
  exact ⟨.inl ⟨uh H0, rfl⟩, (uh HB).alloc hbs _⟩
structure PSm (B : PBx) : Prop where
 sw : B.L.sw.length <= 1000
 rts : B.rts.length <= 100
 fr : ∀ x, x ∈ B.rts -> x.freed <= 1000
 wa : B.sws.length <= 1000
 st : B.sta.length <= 1000
 st9 : ∀ t, t ∈ B.sta -> t < 10
 wl : B.waits.length <= 1000
 w9 : ∀ t, t ∈ B.waits -> t < 9
structure RSm (C : RBx) : Prop where
 sw : C.L.sw.length <= 1000
 ll : C.lines.length <= C.L.rts.length
 rts : C.L.rts.length <= 100
 go : ∀ x, x ∈ C.lines -> x.gone <= 1000
 wa : C.wanted.length = C.L.sw.length
 fa : C.failed.length = C.L.sw.length
 st : C.sta.length <= 1000
 sx : ∀ x, x ∈ C.sta -> x <= 100
 wl : C.waits.length <= 1000
 wx : ∀ x, x ∈ C.waits -> x <= 100
structure Same (B : PBx) (C : RBx) : Prop where
 locks : B.locksT = C.locksT
 phases : B.phasesT = C.phasesT
 switches : B.switchesT = C.switchesT
 state : B.stateT = C.stateT
 queue : z1r B.waits = z09 C.queueT
def PairAt (w : World) (gp : Nat) (B : PBx) (C : RBx) : Prop := ∃ gb gc, w.heap[gp]? = some (.cells #[.pointer (some ⟨gb, 0, none⟩), .pointer (some ⟨gc, 0, none⟩)] 105 (0, 0)) /\ PBoxAt w gb B /\ RBoxAt w gc C
theorem PairAt.below {w w' : World} {gp : Nat} {B : PBx} {C : RBx} (h : PairAt w gp B C) (k : Below w.heap.size w w') : PairAt w' gp B C := by
 obtain ⟨gb, gc, e, h1, h2⟩ := h
 exact ⟨gb, gc, (k.block gp (z0f e)).trans e, h1.below k, h2.below k⟩
set_option maxHeartbeats 1000000 in
theorem locked_true (gp : Nat) (B : PBx) (C : RBx) (w : World) (h : PairAt w gp B C) (hp : PSm B) (hr : RSm C) (hs : Same B C) :
  Calls Tryz.prog 30 #[.pointer (some ⟨gp, 0, none⟩)] w fun e w' => e = .returned (.bool true) /\ Below w.heap.size w w' := by
 obtain ⟨gb, gc, hg, h1, h2⟩ := h
 have H1 := zh (pLocks_any gb B w h1 hp.sw hp.rts hp.fr)
 have H2 := zh (fun (wz : World) (hz : Below w.heap.size w wz) => rLocks_any gc C wz (h2.below hz) hr.sw hr.ll hr.rts hr.go)
 have H3 := zh (fun (wz : World) (hz : Below w.heap.size w wz) => pPhases_any gb B wz (h1.below hz) (by have := hp.rts; omega))
 have H4 := zh (fun (wz : World) (hz : Below w.heap.size w wz) => rPhases_any gc C wz (h2.below hz) (by have := hr.ll; have := hr.rts; omega))
 rw [hs.locks] at H1
 rw [hs.phases] at H3
 generalize z09 C.locksT = t1 at *
 generalize z09 C.phasesT = t2 at *
 clear hp hr hs h1 h2
 obtain ⟨⟨c0, c1⟩, -, q⟩ := duo0 hg
 have HG := zh hg
 clear hg
 go_enter Tryz.func30, Tryz.ntmps30
 go_wp2_with fail
 refine (uh H1).mono ?_
 rintro e w1 ⟨rfl, hb1⟩
 have HB1 := zh hb1
 clear c0 c1
 obtain ⟨⟨c0, c1⟩, -, q1⟩ := duo0 ((hb1.block gp q).trans (uh HG))
 clear hb1
 go_wp2_with fail
 refine (uh H2 w1 (uh HB1)).mono ?_
 rintro e w2 ⟨rfl, hb2⟩
 have hb2' := (uh HB1).trans (hb2.mono (uh HB1).size)
 have HB2 := zh hb2'
 clear c0 c1 hb2
 obtain ⟨⟨c0, c1⟩, -, q2⟩ := duo0 ((hb2'.block gp q).trans (uh HG))
 clear hb2'
 go_wp2_with fail
 refine (uh H3 w2 (uh HB2)).mono ?_
 rintro e w3 ⟨rfl, hb3⟩
 have hb3' := (uh HB2).trans (hb3.mono (uh HB2).size)
 have HB3 := zh hb3'
 clear c0 c1 hb3
 obtain ⟨⟨c0, c1⟩, -, q3⟩ := duo0 ((hb3'.block gp q).trans (uh HG))
 clear hb3'
 go_wp2_with fail
 refine (uh H4 w3 (uh HB3)).mono ?_
 rintro e w4 ⟨rfl, hb4⟩
 have HB4 := zh ((uh HB3).trans (hb4.mono (uh HB3).size))
 clear hb4
 go_wp2
 go_ret
 exact ⟨rfl, uh HB4⟩
set_option maxHeartbeats 1000000 in
theorem lies_true (gp : Nat) (B : PBx) (C : RBx) (w : World) (h : PairAt w gp B C) (hp : PSm B) (hr : RSm C) (hs : Same B C) :
  Calls Tryz.prog 31 #[.pointer (some ⟨gp, 0, none⟩)] w fun e w' => e = .returned (.bool true) /\ Below w.heap.size w w' := by
 obtain ⟨gb, gc, hg, h1, h2⟩ := h
 have H1 := zh (pSwitches_any gb B w h1 hp.wa)
 have H2 := zh (fun (wz : World) (hz : Below w.heap.size w wz) => rSwitches_any gc C wz (h2.below hz) hr.sw hr.wa hr.fa)
 rw [hs.switches] at H1
 generalize z09 C.switchesT = t1 at *
 clear hp hr hs h1 h2
 obtain ⟨⟨c0, c1⟩, -, q⟩ := duo0 hg
 have HG := zh hg
 clear hg
 go_enter Tryz.func31, Tryz.ntmps31
 go_wp2_with fail
 refine (uh H1).mono ?_
 rintro e w1 ⟨rfl, hb1⟩
 have HB1 := zh hb1
 clear c0 c1
 obtain ⟨⟨c0, c1⟩, -, q1⟩ := duo0 ((hb1.block gp q).trans (uh HG))
 clear hb1
 go_wp2_with fail
 refine (uh H2 w1 (uh HB1)).mono ?_
 rintro e w2 ⟨rfl, hb2⟩
 have HB2 := zh ((uh HB1).trans (hb2.mono (uh HB1).size))
 clear hb2
 go_wp2
 go_ret
 exact ⟨rfl, uh HB2⟩
set_option maxHeartbeats 1000000 in
theorem queued_true (gp : Nat) (B : PBx) (C : RBx) (w : World) (h : PairAt w gp B C) (hp : PSm B) (hr : RSm C) (hs : Same B C) :
  Calls Tryz.prog 32 #[.pointer (some ⟨gp, 0, none⟩)] w fun e w' => e = .returned (.bool true) /\ Below w.heap.size w w' := by
 obtain ⟨gb, gc, hg, h1, h2⟩ := h
 have H1 := zh (pAt_any gb B w h1 hp.st hp.st9)
 have H2 := zh (fun (wz : World) (hz : Below w.heap.size w wz) => rState_any gc C wz (h2.below hz) hr.st hr.sx)
 have H3 := zh (fun (wz : World) (hz : Below w.heap.size w wz) => pQueue_any gb B wz (h1.below hz) hp.wl hp.w9)
 have H4 := zh (fun (wz : World) (hz : Below w.heap.size w wz) => rQueue_any gc C wz (h2.below hz) hr.wl hr.wx)
 rw [hs.state] at H1
 rw [hs.queue] at H3
 generalize z09 C.stateT = t1 at *
 generalize z09 C.queueT = t2 at *
 clear hp hr hs h1 h2
 obtain ⟨⟨c0, c1⟩, -, q⟩ := duo0 hg
 have HG := zh hg
 clear hg
 go_enter Tryz.func32, Tryz.ntmps32
 go_wp2_with fail
 refine (uh H1).mono ?_
 rintro e w1 ⟨rfl, rfl⟩
 go_wp2_with fail
 refine (uh H2 w1 (Below.refl _ _)).mono ?_
 rintro e w2 ⟨rfl, hb2⟩
 have HB2 := zh hb2
 clear c0 c1
 obtain ⟨⟨c0, c1⟩, -, q2⟩ := duo0 ((hb2.block gp q).trans (uh HG))
 clear hb2
 go_wp2_with fail
 refine (uh H3 w2 (uh HB2)).mono ?_
 rintro e w3 ⟨rfl, rfl⟩
 go_wp2_with fail
 refine (uh H4 w3 (uh HB2)).mono ?_
 rintro e w4 ⟨rfl, hb4⟩
 have HB4 := zh ((uh HB2).trans (hb4.mono (uh HB2).size))
 clear hb4
 go_wp2
 go_ret
 exact ⟨rfl, uh HB4⟩
set_option maxHeartbeats 1000000 in
theorem looks_whole (gp : Nat) (B : PBx) (C : RBx) (w : World) (h : PairAt w gp B C) (hp : PSm B) (hr : RSm C) (hs : Same B C) :
  Calls Tryz.prog 14 #[.pointer (some ⟨gp, 0, none⟩), .int .i64 5] w fun e w' => e = .returned (.bool true) /\ Below w.heap.size w w' := by
 have H1 := zh (locked_true gp B C w h hp hr hs)
 have H2 := zh (fun (wz : World) (hz : Below w.heap.size w wz) => lies_true gp B C wz (h.below hz) hp hr hs)
 have H3 := zh (fun (wz : World) (hz : Below w.heap.size w wz) => queued_true gp B C wz (h.below hz) hp hr hs)
 clear hp hr hs h
 go_enter Tryz.func14, Tryz.ntmps14
 go_wp2_with fail
 refine (uh H1).mono ?_
 rintro e w1 ⟨rfl, hb1⟩
 have HB1 := zh hb1
 clear hb1
 go_wp2_with fail
 refine (uh H2 w1 (uh HB1)).mono ?_
 rintro e w2 ⟨rfl, hb2⟩
 have HB2 := zh ((uh HB1).trans (hb2.mono (uh HB1).size))
 clear hb2
 go_wp2_with fail
 refine (uh H3 w2 (uh HB2)).mono ?_
 rintro e w3 ⟨rfl, hb3⟩
 have HB3 := zh ((uh HB2).trans (hb3.mono (uh HB2).size))
 clear hb3
 go_wp2
 go_ret
 exact ⟨rfl, uh HB3⟩
structure St where
 done : Bool
 holds : Nat
 ahead : List Nat
def CSt (w : World) (x : St) (cs : List Value) : Prop := ∃ va, cs = [.bool x.done, .int .i64 x.holds, va] /\ Ints w va x.ahead
theorem CSt.keep {w w' : World} {x : St} {cs : List Value} (h : CSt w x cs) (k : Keeps 3 w w') : CSt w' x cs := by
 obtain ⟨va, e, a⟩ := h
 exact ⟨va, e, a.keep k⟩
def Sts (w : World) (v : Value) (l : List St) : Prop := SlAt 223 3 CSt w v l
theorem Sts.keep {w w' : World} {v : Value} {l : List St} (h : Sts w v l) (k : Keeps 223 w w') (k1 : Keeps 3 w w') : Sts w' v l := SlAt.keep h k (fun _ _ h => h.keep k1)
theorem Sts.below {w w' : World} {v : Value} {l : List St} (h : Sts w v l) (k : Below w.heap.size w w') : Sts w' v l := h.keep (.below k) (.below k)
def z24 (l : List St) (who : Nat) : Bool := (List.range l.length).all (fun i => i == who || (l.getD i ⟨false, 0, []⟩).done || !(l.getD who ⟨false, 0, []⟩).ahead.contains (l.getD i ⟨false, 0, []⟩).holds)
theorem stD (l : List St) (i : Nat) (h : i < l.length) : l.getD i ⟨false, 0, []⟩ = l[i] := by
 simp [List.getD_eq_getElem?_getD, List.getElem?_eq_getElem h]
set_option maxHeartbeats 400000 in
theorem has_any (v : Value) (l : List Nat) (x : Nat) (w : World) (h : Ints w v l) :
  Calls Tryz.prog 210 #[v, .int .i64 x] w fun e w' => e = .returned (.bool (l.contains x)) /\ w' = w := by
 obtain ⟨ao, cap, rfl, h1, h2, h3⟩ := SlAt.open h
 clear h
 unfold maxLen at h2
 generalize hz : l.contains x = z
 have HZ := zh hz
 clear hz
 go_enter Tryz.func210, Tryz.ntmps210
 go_wp2
 go_loop [9] (fun i => ∃ k : Nat, i = .int .i64 k /\ k <= l.length /\ (∀ j (hj : j < l.length), j < k -> l[j] ≠ x)) (fun i => l.length - (intOf i).toNat)
 case atStart => exact ⟨0, rfl, Nat.zero_le _, fun j _ h => by omega⟩
 case round =>
  obtain ⟨k, rfl, hk, hno⟩ := hrel
  have HNO := zh hno
  clear hno
  by_cases hlt : k < l.length
  ·obtain ⟨g, off, hao, -, cs, -, hC, hc⟩ := h3 k hlt
   unfold CInt at hC
   subst hC
   have hc0 := hc 0 (by omega)
   simp at hc0
   have hmem := zh (List.getElem_mem hlt)
   clear hc h3
   by_cases hx : l[k] = x
   ·have d : ((l[k] : Int) == (x : Int)) = true := by simp; omega
    have HZ2 := zh (show z = true by rw [<- uh HZ, List.contains_iff_mem, <- hx]; exact uh hmem)
    clear hx
    generalize l[k] = y at *
    go_wp2
    go_ret
    exact ⟨z04 (uh HZ2).symm, rfl⟩
   ·have d : ((l[k] : Int) == (x : Int)) = false := by simp; omega
    have HNK := zh (show ∀ j (hj : j < l.length), j < k + 1 -> l[j] ≠ x by
     intro j hj hjk
     rcases Nat.lt_or_ge j k with h | h
     ·exact uh HNO j hj h
     ·obtain rfl : j = k := by omega
      exact hx)
    clear hx
    obtain ⟨y, hy⟩ : ∃ y, y = l[k] := ⟨_, rfl⟩
    rw [<- hy] at d hc0
    clear hy hmem
    go_wp2
    exact ⟨⟨k + 1, by go_num, by omega, uh HNK⟩, by simp [intOf]; omega⟩
  ·have HZ2 := zh (show z = false by
    rw [<- uh HZ]
    apply Bool.eq_false_iff.2
    intro hc
    rw [List.contains_iff_mem] at hc
    obtain ⟨j, hj, e⟩ := List.getElem_of_mem hc
    exact uh HNO j hj (by omega) e)
   clear h3
   go_wp2
   go_ret
   exact ⟨z04 (uh HZ2).symm, rfl⟩
set_option maxHeartbeats 400000 in
theorem allDone_any (v : Value) (l : List St) (w : World) (h : Sts w v l) :
  Calls Tryz.prog 162 #[v] w fun e w' => e = .returned (.bool (l.all (·.done))) /\ Below w.heap.size w w' := by
 obtain ⟨ao, cap, rfl, h1, h2, h3⟩ := SlAt.open h
 clear h
 unfold maxLen at h2
 generalize hz : l.all (·.done) = z
 have HZ := zh hz
 clear hz
 go_enter Tryz.func162, Tryz.ntmps162
 go_wp2
 go_loopw [7] (fun i wr => ∃ k : Nat, i = .int .i64 k /\ k <= l.length /\ (∀ j (hj : j < l.length), j < k -> l[j].done = true) /\ Below w.heap.size w wr) (fun i _ => l.length - (intOf i).toNat)
 case atStart => exact ⟨0, rfl, Nat.zero_le _, fun j _ h => by omega, Below.refl _ _⟩
 case round =>
  obtain ⟨k, rfl, hk, hno, hb⟩ := hrel
  have HNO := zh hno
  have HB := zh hb
  have hsz := hb.size
  clear hno
  by_cases hlt : k < l.length
  ·obtain ⟨g, off, hao, hg, cs, -, hC, hc⟩ := h3 k hlt
   subst hao
   obtain ⟨va, rfl, hI⟩ := hC
   obtain ⟨aa, ca, rfl, -, -, -⟩ := SlAt.open hI
   have hc0 := hc 0 (by omega)
   have hc1 := hc 1 (by omega)
   have hc2 := hc 2 (by omega)
   rw [<- hb.cell (p := ⟨g, _, none⟩) hg] at hc0 hc1 hc2
   simp at hc0 hc1 hc2
   have hgw : g < wr.heap.size := by omega
   have hmem := zh (List.getElem_mem hlt)
   clear hc h3 hI hb
   cases hd : l[k].done with
   | false =>
    have HZ2 := zh (show z = false by rw [<- uh HZ, List.all_eq_false]; exact ⟨l[k], uh hmem, by simp [hd]⟩)
    rw [hd] at hc0
    clear hd
    generalize l[k] = y at *
    go_wp2
    go_ret
    exact ⟨z04 (uh HZ2).symm, (uh HB).alloc hsz _⟩
   | true =>
    have HNK := zh (show ∀ j (hj : j < l.length), j < k + 1 -> l[j].done = true by
     intro j hj hjk
     rcases Nat.lt_or_ge j k with h | h
     ·exact uh HNO j hj h
     ·obtain rfl : j = k := by omega
      exact hd)
    rw [hd] at hc0
    clear hd hmem
    obtain ⟨y, hy⟩ : ∃ y, y = l[k] := ⟨_, rfl⟩
    rw [<- hy] at hc1 hc2
    clear hy
    go_wp2
    exact ⟨⟨k + 1, by go_num, by omega, uh HNK, (uh HB).alloc hsz _⟩, by simp [intOf]; omega⟩
  ·have HZ2 := zh (show z = true by
    rw [<- uh HZ, List.all_eq_true]
    intro y hy
    obtain ⟨j, hj, rfl⟩ := List.getElem_of_mem hy
    exact uh HNO j hj (by omega))
   clear h3
   go_wp2
   go_ret
   exact ⟨z04 (uh HZ2).symm, hb⟩
set_option maxHeartbeats 1000000 in
theorem mayRun_any (v : Value) (l : List St) (who : Nat) (w : World) (h : Sts w v l) (hw : who < l.length) :
  Calls Tryz.prog 194 #[v, .int .i64 who] w fun e w' => e = .returned (.bool (z24 l who)) /\ Below w.heap.size w w' := by
 obtain ⟨ao, cap, rfl, h1, h2, h3⟩ := SlAt.open h
 clear h
 unfold maxLen at h2
 obtain ⟨z, hz⟩ : ∃ z, z = z24 l who := ⟨_, rfl⟩
 rw [<- hz]
 unfold z24 at hz
 have HZ := zh hz
 clear hz
 obtain ⟨g, off, rfl, hg, cs, -, hC, hc⟩ := h3 who hw
 obtain ⟨va, rfl, hI⟩ := hC
 have HIA := zh (show Ints w va l[who].ahead from hI)
 obtain ⟨aa, ca, rfl, -, -, -⟩ := SlAt.open hI
 have hw2 := hc 2 (by omega)
 simp at hw2
 have HWA := zh (stD l who hw)
 clear hc hI
 generalize hlw : l[who] = LW at *
 clear hlw
 go_enter Tryz.func194, Tryz.ntmps194
 go_wp2
 go_loopw [9] (fun i wr => ∃ k : Nat, i = .int .i64 k /\ k <= l.length /\ (∀ j, j < k -> (j == who || (l.getD j ⟨false, 0, []⟩).done || !(l.getD who ⟨false, 0, []⟩).ahead.contains (l.getD j ⟨false, 0, []⟩).holds) = true) /\ Below w.heap.size w wr) (fun i _ => l.length - (intOf i).toNat)
 case atStart => exact ⟨0, rfl, Nat.zero_le _, fun j h => by omega, Below.refl _ _⟩
 case round =>
  obtain ⟨k, rfl, hk, hno, hb⟩ := hrel
  have HNO := zh hno
  have HB := zh hb
  have hsz := hb.size
  clear hno
  by_cases hlt : k < l.length
  ·obtain ⟨g', off', hao, -, cs, -, hC, hc⟩ := h3 k hlt
   simp only [Option.some.injEq, Addr.mk.injEq, and_true] at hao
   obtain ⟨rfl, rfl⟩ := hao
   obtain ⟨vb, rfl, hI2⟩ := hC
   obtain ⟨ab, cb, rfl, -, -, -⟩ := SlAt.open hI2
   have hc0 := hc 0 (by omega)
   have hc1 := hc 1 (by omega)
   have hc2 := hc 2 (by omega)
   rw [<- hb.cell (p := ⟨g, _, none⟩) hg] at hc0 hc1 hc2 hw2
   simp at hc0 hc1 hc2 hw2
   have hgw : g < wr.heap.size := by omega
   have HSK := zh (stD l k hlt)
   clear hc h3 hI2 hb
   generalize hlk : l[k] = LK at *
   clear hlk
   have HP := zh (show ∀ bb, (k == who || LK.done || !LW.ahead.contains LK.holds) = bb -> (k == who || (l.getD k ⟨false, 0, []⟩).done || !(l.getD who ⟨false, 0, []⟩).ahead.contains (l.getD k ⟨false, 0, []⟩).holds) = bb by
    intro bb h; rw [uh HSK, uh HWA]; exact h)
   have HTR := zh (fun (h : (k == who || LK.done || !LW.ahead.contains LK.holds) = true) => show ∀ j, j < k + 1 -> (j == who || (l.getD j ⟨false, 0, []⟩).done || !(l.getD who ⟨false, 0, []⟩).ahead.contains (l.getD j ⟨false, 0, []⟩).holds) = true by
    intro j hj
    rcases Nat.lt_or_ge j k with h' | h'
    ·exact uh HNO j h'
    ·obtain rfl : j = k := by omega
     exact uh HP _ h)
   have HFA := zh (fun (h : (k == who || LK.done || !LW.ahead.contains LK.holds) = false) => show z = false by
    rw [uh HZ, List.all_eq_false]
    exact ⟨k, List.mem_range.2 hlt, by rw [uh HP _ h]; simp⟩)
   have hb3 := zh ((uh HB).alloc hsz (.cells #[.bool LK.done, .int .i64 LK.holds, .slice ab LK.ahead.length cb] 223))
   by_cases hkw : k = who
   ·have d : ((k : Int) == (who : Int)) = true := by simp; omega
    have HK1 := zh (uh HTR (by simp [hkw]))
    clear hkw
    go_wp2
    exact ⟨⟨k + 1, by go_num, by omega, uh HK1, uh hb3⟩, by simp [intOf]; omega⟩
   have d : ((k : Int) == (who : Int)) = false := by simp; omega
   have e1 : (k == who) = false := by simpa using hkw
   rw [e1] at HTR HFA
   clear hkw e1
   cases hdn : LK.done with
   | true =>
    have HK1 := zh (uh HTR (by simp [hdn]))
    rw [hdn] at hc0 hb3
    clear hdn
    go_wp2
    exact ⟨⟨k + 1, by go_num, by omega, uh HK1, uh hb3⟩, by simp [intOf]; omega⟩
   | false =>
    rw [hdn] at hc0 hb3 HTR HFA
    have hcc := zh (fun wz (hz : Below w.heap.size w wz) => has_any _ LW.ahead LK.holds wz ((uh HIA).below hz))
    have l0 : (0 : Int) <= who := by omega
    have l1 : (who : Int) < l.length := by omega
    clear hdn
    cases hct : LW.ahead.contains LK.holds with
    | true =>
     rw [hct] at hcc
     have HZ2 := zh (uh HFA (by rw [hct]; rfl))
     clear hct
     go_wp2
     go_quiet ((go_at_call 210; exact Calls.quiet_of_same (uh hcc _ (by exact below_drewN (uh hb3) _))))
     go_wp2
     go_ret
     exact ⟨z04 (uh HZ2).symm, below_drewN (uh hb3) _⟩
    | false =>
     rw [hct] at hcc
     have HK1 := zh (uh HTR (by rw [hct]; rfl))
     clear hct
     go_wp2
     go_quiet ((go_at_call 210; exact Calls.quiet_of_same (uh hcc _ (by exact below_drewN (uh hb3) _))))
     go_wp2
     exact ⟨⟨k + 1, by go_num, by omega, uh HK1, below_drewN (uh hb3) _⟩, by simp [intOf]; omega⟩
  ·have HZ2 := zh (show z = true by
    rw [uh HZ, List.all_eq_true]
    intro j hj
    exact uh HNO j (by have := List.mem_range.1 hj; omega))
   clear h3
   go_wp2
   go_ret
   exact ⟨z04 (uh HZ2).symm, hb⟩
def z32 (l : List St) : Option Nat := (List.range l.length).find? (fun i => !(l.getD i ⟨false, 0, []⟩).done && z24 l i)
def firstV : Option Nat -> Value × Bool
 | none => (.int .i64 0, false)
 | some i => (.int .i64 i, true)
theorem find_none' (p : Nat -> Bool) (n : Nat) (h : ∀ k, k < n -> p k = false) : (List.range n).find? p = none := by
 rw [List.find?_eq_none]; intro x hx; rw [h x (List.mem_range.1 hx)]; simp
theorem find_some' (p : Nat -> Bool) (n k : Nat) (hk : k < n) (h : ∀ j, j < k -> p j = false) (hp : p k = true) : (List.range n).find? p = some k := by
 rw [List.find?_eq_some_iff_append]
 refine ⟨hp, List.range k, (List.range (n - k - 1)).map (· + (k + 1)), ?_, ?_⟩
 ·have e : n = k + (1 + (n - k - 1)) := by omega
  conv => lhs; rw [e]
  rw [List.range_add, List.range_add]
  simp [List.range_one, Nat.add_comm, Nat.add_left_comm, Function.comp_def]
 ·intro x hx; rw [h x (List.mem_range.1 hx)]; rfl
set_option maxHeartbeats 1000000 in
theorem z3w (v : Value) (l : List St) (w : World) (h : Sts w v l) (hl : l.length <= 1000) :
  Calls Tryz.prog 161 #[v] w fun e w' => e = .returned (.tuple #[(firstV (z32 l)).1, .bool (firstV (z32 l)).2]) /\ Below w.heap.size w w' := by
 have _ := hl
 have HS := zh h
 obtain ⟨ao, cap, rfl, h1, h2, h3⟩ := SlAt.open h
 clear h
 unfold maxLen at h2
 obtain ⟨z, hz⟩ : ∃ z, z = z32 l := ⟨_, rfl⟩
 rw [<- hz]
 unfold z32 at hz
 have HZ := zh hz
 clear hz
 go_enter Tryz.func161, Tryz.ntmps161
 go_wp2
 go_loopw [4] (fun i wr => ∃ k : Nat, i = .int .i64 k /\ k <= l.length /\ (∀ j, j < k -> (!(l.getD j ⟨false, 0, []⟩).done && z24 l j) = false) /\ Below w.heap.size w wr) (fun i _ => l.length - (intOf i).toNat)
 case atStart => exact ⟨0, rfl, Nat.zero_le _, fun j h => by omega, Below.refl _ _⟩
 case round =>
  obtain ⟨k, rfl, hk, hno, hb⟩ := hrel
  have HNO := zh hno
  have HB := zh hb
  have hsz := hb.size
  clear hno
  by_cases hlt : k < l.length
  ·obtain ⟨g, off, hao, hg, cs, -, hC, hc⟩ := h3 k hlt
   subst hao
   obtain ⟨vb, rfl, -⟩ := hC
   have hc0 := hc 0 (by omega)
   rw [<- hb.cell (p := ⟨g, _, none⟩) hg] at hc0
   simp at hc0
   have hgw : g < wr.heap.size := by omega
   have HSK := zh (show (l.getD k ⟨false, 0, []⟩).done = l[k].done by rw [stD l k hlt])
   clear hc h3 hb
   have HFA := zh (fun (h : (!l[k].done && z24 l k) = false) => show ∀ j, j < k + 1 -> (!(l.getD j ⟨false, 0, []⟩).done && z24 l j) = false by
    intro j hj
    rcases Nat.lt_or_ge j k with h' | h'
    ·exact uh HNO j h'
    ·obtain rfl : j = k := by omega
     rw [uh HSK]; exact h)
   have HTR := zh (fun (h : (!l[k].done && z24 l k) = true) => show z = some k by
    rw [uh HZ]; exact find_some' _ _ k hlt (uh HNO) (by rw [uh HSK]; exact h))
   generalize l[k].done = dn at *
   cases dn with
   | true =>
    have HK := zh (uh HFA rfl)
    go_wp2
    exact ⟨⟨k + 1, by go_num, by omega, uh HK, uh HB⟩, by simp [intOf]; omega⟩
   | false =>
    generalize hm : z24 l k = m at *
    have HM := zh hm
    clear hm
    go_wp2_with fail
    refine (mayRun_any _ l k _ ((uh HS).below (uh HB)) hlt).mono ?_
    rw [uh HM]
    rintro e w2 ⟨rfl, hb2⟩
    have hb3 := zh ((uh HB).trans (hb2.mono hsz))
    clear hb2
    cases m with
    | true =>
     have HK := zh (uh HTR rfl)
     go_wp2
     go_ret2
     exact ⟨by rw [uh HK] <;> rfl, uh hb3⟩
    | false =>
     have HK := zh (uh HFA rfl)
     go_wp2
     exact ⟨⟨k + 1, by go_num, by omega, uh HK, uh hb3⟩, by simp [intOf]; omega⟩
  ·have HK := zh (show z = none by
    obtain rfl : k = l.length := by omega
    rw [uh HZ]; exact find_none' _ _ (uh HNO))
   clear h3
   go_wp2
   go_ret2
   exact ⟨by rw [uh HK] <;> rfl, hb⟩
def Lay.itemOK (L : Lay) (x : Nat × Nat) : Bool := decide (x.1 < L.sw.length) && (L.sw.getD x.1 false == (x.2 != 0))
set_option maxHeartbeats 400000 in
theorem pathItemRight_any (v : Value) (L : Lay) (x : Nat × Nat) (w : World) (h : CLay w v L) :
  Calls Tryz.prog 189 #[v, .agg #[.int .i64 x.1, .int .u8 x.2]] w fun e w' => e = .returned (.bool (L.itemOK x)) /\ Below w.heap.size w w' := by
 have H1 := zh (fun (wz : World) (hz : Below w.heap.size w wz) => z1v _ L x.1 wz (h.below hz))
 have H2 := zh (fun (wz : World) (hz : Below w.heap.size w wz) => z1l _ L x.1 wz (h.below hz))
 obtain ⟨vs, vr, vt, rfl, -, -, -⟩ := h
 obtain ⟨x1, x2⟩ := x
 simp only [Lay.itemOK] at H1 H2 ⊢
 generalize hsn : L.sw.getD x1 false = sb at *
 have HSN := zh hsn
 clear hsn
 cases hd : decide (x1 < L.sw.length) with
 | false =>
  rw [hd] at H1
  clear hd
  rw [Bool.false_and]
  go_enter Tryz.func189, Tryz.ntmps189
  go_wp2_with fail
  refine (uh H1 _ (z06 (o1 := z0i L vs vr vt) (Below.refl _ _))).mono ?_
  rintro e w1 ⟨rfl, hb⟩
  have HB := zh ((z06 (o1 := z0i L vs vr vt) (o2 := .cells #[.int .i64 x1, .int .u8 x2] 196) (Below.refl _ _)).trans (hb.mono (by simp; omega)))
  clear hb
  go_wp2
  go_ret
  exact ⟨rfl, uh HB⟩
 | true =>
  rw [hd] at H1
  clear hd
  rw [Bool.true_and]
  by_cases h0 : x2 = 0
  ·have d : ((x2 : Int) != 0) = false := by simp [h0]
   have e2 : (x2 != 0) = false := by simp [h0]
   rw [e2]
   clear h0 e2
   go_enter Tryz.func189, Tryz.ntmps189
   go_wp2_with fail
   refine (uh H1 _ (z06 (o1 := z0i L vs vr vt) (Below.refl _ _))).mono ?_
   rintro e w1 ⟨rfl, hb⟩
   have hbx : Below (w.heap.size + 2) ((w.alloc (z0i L vs vr vt)).alloc (.cells #[.int .i64 x1, .int .u8 x2] 196)) w1 := hb.mono (by simp)
   have h1 := blk1 w (z0i L vs vr vt) (.cells #[.int .i64 x1, .int .u8 x2] 196)
   have h2 := blk2 w (z0i L vs vr vt) (.cells #[.int .i64 x1, .int .u8 x2] 196)
   obtain ⟨⟨q0, q1, q2, q3, q4, q5⟩, -, -⟩ := six0 ((hbx.block _ (by omega)).trans h1)
   obtain ⟨⟨y0, y1⟩, -, -⟩ := duo0 ((hbx.block _ (by omega)).trans h2)
   have HB := zh (z06 hbx)
   clear hb hbx h1 h2
   go_wp2_with fail
   refine (uh H2 _ (uh HB)).mono ?_
   rintro e w2 ⟨rfl, hb2⟩
   have HB2 := zh ((uh HB).trans (hb2.mono (uh HB).size))
   clear hb2
   cases sb
   all_goals
    go_wp2
    go_ret
    exact ⟨rfl, uh HB2⟩
  ·have d : ((x2 : Int) != 0) = true := by simp; omega
   have e2 : (x2 != 0) = true := by simp [h0]
   rw [e2]
   clear h0 e2
   go_enter Tryz.func189, Tryz.ntmps189
   go_wp2_with fail
   refine (uh H1 _ (z06 (o1 := z0i L vs vr vt) (Below.refl _ _))).mono ?_
   rintro e w1 ⟨rfl, hb⟩
   have hbx : Below (w.heap.size + 2) ((w.alloc (z0i L vs vr vt)).alloc (.cells #[.int .i64 x1, .int .u8 x2] 196)) w1 := hb.mono (by simp)
   have h1 := blk1 w (z0i L vs vr vt) (.cells #[.int .i64 x1, .int .u8 x2] 196)
   have h2 := blk2 w (z0i L vs vr vt) (.cells #[.int .i64 x1, .int .u8 x2] 196)
   obtain ⟨⟨q0, q1, q2, q3, q4, q5⟩, -, -⟩ := six0 ((hbx.block _ (by omega)).trans h1)
   obtain ⟨⟨y0, y1⟩, -, -⟩ := duo0 ((hbx.block _ (by omega)).trans h2)
   have HB := zh (z06 hbx)
   clear hb hbx h1 h2
   go_wp2_with fail
   refine (uh H2 _ (uh HB)).mono ?_
   rintro e w2 ⟨rfl, hb2⟩
   have HB2 := zh ((uh HB).trans (hb2.mono (uh HB).size))
   clear hb2
   cases sb
   all_goals
    go_wp2
    go_ret
    exact ⟨rfl, uh HB2⟩
def VTn (w : World) (v : Value) (t : Tn) : Prop := ∃ vj, v = .agg #[.int .i64 t.start, vj] /\ Ints w vj t.jny
theorem VTn.below {w w' : World} {v : Value} {t : Tn} (h : VTn w v t) (k : Below w.heap.size w w') : VTn w' v t := by
 obtain ⟨vj, e, a⟩ := h
 exact ⟨vj, e, a.keep (.below k)⟩
set_option maxHeartbeats 1000000 in
theorem journeyRight_any (v vt : Value) (L : Lay) (t : Tn) (w : World) (h : CLay w v L) (ht : VTn w vt t) (hp : L.Paths) :
  Calls Tryz.prog 192 #[v, vt] w fun e w' => e = .returned (.bool (L.joins t.start t.jny)) /\ Below w.heap.size w w' := by
 have HL := zh h
 obtain ⟨vs, vr, vtt, rfl, -, -, -⟩ := h
 obtain ⟨vj, rfl, hJ⟩ := ht
 obtain ⟨aj, cj, rfl, h1, h2, h3⟩ := SlAt.open hJ
 unfold maxLen at h2
 generalize hz : L.joins t.start t.jny = z
 have HZ := zh hz
 have HP := zh hp
 clear hz hp hJ
 go_enter Tryz.func192, Tryz.ntmps192
 go_wp2
 go_loopw [5, 15] (fun f i wr => ∃ k s : Nat, i = .int .i64 k /\ f = .int .i64 s /\ k <= t.jny.length /\ z = L.joins s (t.jny.drop k) ∧
   Below (w.heap.size + 2) ((w.alloc (z0i L vs vr vtt)).alloc (.cells #[.int .i64 t.start, .slice aj t.jny.length cj] 218)) wr) (fun _ i _ => t.jny.length - (intOf i).toNat)
 case atStart => exact ⟨0, t.start, rfl, rfl, Nat.zero_le _, (uh HZ).symm, Below.refl _ _⟩
 case round =>
  obtain ⟨k, s, rfl, rfl, hk, hq, hb⟩ := hrel
  have HQ := zh hq
  have HB := zh hb
  have qs := z17 hb
  have b1 := blk1 w (z0i L vs vr vtt) (.cells #[.int .i64 t.start, .slice aj t.jny.length cj] 218)
  obtain ⟨⟨q0, q1, q2, q3, q4, q5⟩, -, -⟩ := six0 ((hb.block _ (by omega)).trans b1)
  clear hq b1
  by_cases hlt : k < t.jny.length
  ·obtain ⟨g, off, hao, hg, cs, -, hC, hc⟩ := h3 k hlt
   subst hao
   unfold CInt at hC
   subst hC
   have hc0 := hc 0 (by omega)
   rw [<- (z06 hb).cell (p := ⟨g, _, none⟩) hg] at hc0
   simp at hc0
   have HJ := zh (show L.joins s (t.jny.drop k) = (decide (t.jny[k] < L.rts.length) && (L.rt t.jny[k]).foot == s && L.joins (L.endOf t.jny[k]) (t.jny.drop (k + 1))) by
    rw [List.drop_eq_getElem_cons hlt]; rfl)
   clear hc h3 hb
   generalize t.jny[k] = x at *
   have H1 := zh (RouteAt_any _ L x wr ((uh HL).below (z06 (uh HB))))
   go_wp2_with fail
   refine (uh H1).mono ?_
   rintro e w1 ⟨tt, a1, a2, n1, n2, c1, c2, rfl, hV, hb1⟩
   have HV := zh hV
   have HB1 := zh ((uh HB).trans (hb1.mono (B' := w.heap.size + 2) (by omega)))
   have hz1 := hb1.size
   clear hV hb1 hc0 q0 q1 q2 q3 q4 q5
   by_cases hx : x < L.rts.length
   ·have hv := uh HV hx
    obtain ⟨vp, vf, he, hI1, hI2⟩ := hv
    simp only [Value.agg.injEq, Array.mk.injEq, List.cons.injEq, and_true, Value.int.injEq, true_and] at he
    obtain ⟨rfl, rfl, rfl⟩ := he
    have HVV := zh (show VRt w1 (.agg #[.int .i64 (L.rt x).foot, .slice a1 n1 c1, .slice a2 n2 c2]) (L.rt x) from ⟨_, _, rfl, hI1, hI2⟩)
    have HNE := zh (uh HP (L.rt x) (by rw [rt_eq L x hx]; exact List.getElem_mem hx))
    have hd : decide (x < L.rts.length) = true := decide_eq_true hx
    rw [hd]
    rw [hd, Bool.true_and] at HJ
    have HEND := zh (show L.endOf x = lastN (L.rt x).path from rfl)
    clear hI1 hI2 HV hd hx
    generalize L.rt x = R at *
    by_cases hfo : R.foot = s
    ·have d : ((R.foot : Int) != (s : Int)) = false := by simp; omega
     have HQ2 := zh (show z = L.joins (lastN R.path) (t.jny.drop (k + 1)) by rw [uh HQ, uh HJ, uh HEND]; simp [hfo])
     clear hfo
     go_wp2_with fail
     refine (Last_any _ R _ ((uh HVV).below (z02 _ _)) (uh HNE)).mono ?_
     rintro e w2 ⟨rfl, hb2⟩
     have hb3 := (((uh HB1).alloc (by omega) (.cells #[.int .i64 R.foot, .slice a1 n1 c1, .slice a2 n2 c2] 124))).trans (hb2.mono (B' := w.heap.size + 2) (by simp; omega))
     clear hb2
     go_wp2
     exact ⟨⟨k + 1, lastN R.path, by go_num, rfl, by omega, uh HQ2, hb3⟩, by simp [intOf]; omega⟩
    ·have d : ((R.foot : Int) != (s : Int)) = true := by simp; omega
     have HZ2 := zh (show z = false by rw [uh HQ, uh HJ]; simp [hfo])
     clear hfo
     go_wp2
     go_ret
     exact ⟨z04 (uh HZ2).symm, z06 ((uh HB1).alloc (by omega) _)⟩
   ·have hd : decide (x < L.rts.length) = false := decide_eq_false hx
    rw [hd]
    have HZ2 := zh (show z = false by rw [uh HQ, uh HJ, hd]; rfl)
    clear hd hx HV
    go_wp2
    go_ret
    exact ⟨z04 (uh HZ2).symm, z06 ((uh HB1).alloc (by omega) _)⟩
  ·have HZ2 := zh (show z = true by rw [uh HQ, List.drop_of_length_le (by omega)]; rfl)
   have hb3 := z06 (uh HB)
   clear h3 hb
   go_wp2
   go_ret
   exact ⟨z04 (uh HZ2).symm, hb3⟩
end Go.Proofs.YtkbpocecbcaiiaaGreatDoor
