import Derived.Test.YtkbpocecbcaiiaaGreatDoorJ31
namespace Go.Proofs.YtkbpocecbcaiiaaGreatDoor
open Go.RowKit
theorem digs_take (s : ByteArray) (k : Nat) (h : k < s.size) : (digs s.data.toList).take (k + 1) = (digs s.data.toList).take k ++ [s[k].toNat - 48] := by
 rw [List.take_succ_eq_append_getElem (by simp [digs]; exact h)]
 simp [digs]; rfl
theorem okD_at (L : Lay) (s : ByteArray) (k : Nat) (h : k < s.size) (hL : k < L.tns.length) : okD (L.tn k) (s.data.toList.getD k 0) = (decide (48 <= s[k].toNat) && decide (s[k].toNat <= 48 + L.tns[k].jny.length)) := by
 have : s.data.toList.getD k 0 = s[k] := by
  rw [List.getD_eq_getElem?_getD, List.getElem?_eq_getElem (by simpa using h)]; rfl
 rw [this, okD, tn_eq L k hL]
set_option maxHeartbeats 400000 in
theorem state_any (v : Value) (L : Lay) (s : ByteArray) (w : World) (h : RPlan w v L) (hsm : L.tns.length <= 1000) :
  Calls Tryz.prog 105 #[v, .string s] w fun e w' => ∃ v', e = .returned (.tuple #[v', .bool (L.stateB s.data.toList)]) /\ (L.stateB s.data.toList = true -> Ints w' v' (digs s.data.toList)) /\ Below w.heap.size w w' := by
 obtain ⟨vh, vr, vt, rfl, -, -, hT⟩ := h
 obtain ⟨aot, capt, rfl, t1, t2, t3⟩ := SlAt.open hT
 clear hT
 unfold maxLen at t2
 obtain ⟨i0, hi0⟩ := info_parts Tryz.infoInt
 have HI := zh hi0
 clear hi0
 generalize hzz : L.stateB s.data.toList = z
 have HZ := zh hzz
 clear hzz
 have hsl : s.data.toList.length = s.size := by simp
 by_cases hne : s.size = L.tns.length
 ·have HN := zh hne
  have hne' : ((s.size : Int) != (L.tns.length : Int)) = false := by simp; omega
  have hsz : s.size <= 1000 := by omega
  have HSL := zh hsl
  clear hne hsl
  go_enter Tryz.func105, Tryz.ntmps105
  go_wp2
  go_loopw [6, 7] (fun r i wr => ∃ k : Nat, k <= s.size /\ i = .int .i64 k /\ wr.ownsRow (w.heap.size + 1) 3 1 r k (intsV ((digs s.data.toList).take k)) ∧
    (∀ k', k' < k -> okD (L.tn k') (s.data.toList.getD k' 0) = true) ∧
    Below (w.heap.size + 1) (w.alloc (z0v L vh vr (.slice aot L.tns.length capt))) wr) (fun _ i _ => s.size - (intOf i).toNat)
  case atStart => exact ⟨0, Nat.zero_le _, rfl, World.ownsRow_nil _ _ _ _, fun k' h => by omega, Below.refl _ _⟩
  case round =>
   obtain ⟨k, hk, rfl, hown, hq, hb⟩ := hrel
   clear hne'
   have HQ := zh hq
   have HB := zh hb
   obtain ⟨q0, q1, q2, q3, q4, q5, qs⟩ := z15 hb
   obtain ⟨p, hp⟩ : ∃ p, p = (digs s.data.toList).take k := ⟨_, rfl⟩
   rw [<- hp] at hown
   have HP := zh hp
   clear hp hq
   by_cases hlt : k < s.size
   ·have hltL : k < L.tns.length := by have := uh HN; omega
    obtain ⟨g, off, hao, hg, cs, -, hC, hc⟩ := t3 k hltL
    subst hao
    obtain ⟨vj, rfl, hJ⟩ := hC
    have hc1 := hc 1 (by omega)
    rw [<- (z05 hb).cell (p := ⟨g, _, none⟩) hg] at hc1
    obtain ⟨aoj, capj, rfl, j1, j2, -⟩ := SlAt.open hJ
    have HO := zh (okD_at L s k hlt hltL)
    have HS := zh (digs_take s k hlt)
    clear hc t3 hJ hb
    unfold maxLen at j2
    simp at hc1
    generalize L.tns[k].jny = jl at *
    have hcb : s[k].toNat < 256 := s[k].toNat_lt
    obtain ⟨c, hce⟩ : ∃ c, s[k].toNat = c := ⟨_, rfl⟩
    rw [hce] at hcb HO HS
    have HBAD := zh (fun (h : ¬ (48 <= c /\ c <= 48 + jl.length)) => show z = false by
     have hno : okD (L.tn k) (s.data.toList.getD k 0) = false := by rw [uh HO]; simp; omega
     rw [<- uh HZ, Lay.stateB]
     have : (List.range s.data.toList.length).all (fun j => okD (L.tn j) (s.data.toList.getD j 0)) = false :=
      List.all_eq_false.2 ⟨k, List.mem_range.2 (by rw [uh HSL]; exact hlt), by rw [hno]; simp⟩
     rw [this, Bool.and_false])
    have hb3 := zh (z05 (uh HB))
    by_cases c1 : c < 48
    ·have hz := zh (uh HBAD (by omega))
     go_wp2
     go_ret2
     exact ⟨.slice none 0 0, by rw [uh hz]; rfl, fun h => absurd ((uh hz).symm.trans h) (by simp), uh hb3⟩
    by_cases c2 : 48 + jl.length < c
    ·have hz := zh (uh HBAD (by omega))
     go_wp2
     go_ret2
     exact ⟨.slice none 0 0, by rw [uh hz]; rfl, fun h => absurd ((uh hz).symm.trans h) (by simp), uh hb3⟩
    ·go_wp2_with (at_builtin; refine wpList_append_own _ rfl _ _ 50 rfl (w.heap.size + 1) 3 i0 (.int .i64 0) 1 8 Tryz.underlying50 (uh HI).1 (uh HI).2.1 (uh HI).2.2.1 (uh HI).2.2.2 rfl (by decide) _ _ _ rfl (hown.alloc _) ⟨wr.heap.size, 0, none⟩ 1 1 [.int .i64 ((c : Int) - 48)] rfl rfl (z0o _ _ _) (z0a rfl) (by unfold maxLen; omega) (by omega) (by simp; omega) ?_; intro v' w1 hown' hgrow _)
     have hb' := z0l (uh HB) (by omega) hown hgrow
     have hok : okD (L.tn k) (s.data.toList.getD k 0) = true := by rw [uh HO]; simp; omega
     have hcc : (c : Int) - 48 = ((c - 48 : Nat) : Int) := by omega
     rw [hcc] at hown'
     clear hgrow hown
     go_wp2
     refine ⟨⟨k + 1, by omega, by go_num, by rw [uh HS, <- uh HP, z0p]; exact hown', fun k' h => ?_, hb'⟩, by simp [intOf]; omega⟩
     rcases Nat.lt_or_ge k' k with h' | h'
     ·exact uh HQ k' h'
     ·obtain rfl : k' = k := by omega
      exact hok
   ·obtain rfl : k = s.size := by omega
    have hfin := zh (Ints.ofOwn hown (by rw [uh HP]; simp [digs]))
    rw [uh HP, List.take_of_length_le (by simp [digs])] at hfin
    have hb3 := zh (z05 (uh HB))
    have hz := zh (show z = true by
     rw [<- uh HZ, Lay.stateB, uh HSL, uh HN]
     rw [<- uh HN, List.all_eq_true.2 (fun j hj => uh HQ j (List.mem_range.1 hj))]; simp [uh HN])
    clear t3 hown HP hb
    go_wp2
    go_ret2
    exact ⟨u6, by rw [uh hz]; rfl, fun _ => uh hfin, uh hb3⟩
 ·have hz := zh (show z = false by rw [<- uh HZ, Lay.stateB, hsl]; simp [hne])
  have hne' : ((s.size : Int) != (L.tns.length : Int)) = true := by simp; omega
  clear hne hsl
  go_enter Tryz.func105, Tryz.ntmps105
  go_wp2
  go_ret2
  exact ⟨.slice none 0 0, by rw [uh hz]; rfl, fun h => absurd ((uh hz).symm.trans h) (by simp), z02 _ _⟩
def FormOK : Prop := ∀ l : List UInt8, l.length <= 256 -> z16 0 0 l = -1 -> Form l
set_option maxHeartbeats 400000 in
theorem rCheck_any (s : ByteArray) (w : World) (hF : FormOK) :
  Calls Tryz.prog 34 #[.string s] w fun e w' => e = .returned (.tuple #[.int .i64 (errOf s.data.toList).1, .int .i64 (errOf s.data.toList).2]) /\ Below w.heap.size w w' := by
 have H := zh (Read_any s w (fun h => hF _ (by simpa using h)))
 generalize errOf s.data.toList = E at *
 go_enter Tryz.func34, Tryz.ntmps34
 go_wp2_with fail
 refine (uh H).mono ?_
 rintro e w1 ⟨v, rfl, ⟨T, D, Q, a1, a2, a3, n1, n2, n3, d1, d2, d3, rfl⟩, -, hb⟩
 go_wp2
 go_ret2
 exact ⟨rfl, hb.trans ((z02 _ _).mono hb.size)⟩
def z3u (l a : List UInt8) : Bool × Nat :=
 if (errOf l).1 ≠ 0 then (false, (errOf l).1)
 else if (layOf l).stateB a = false then (false, 7)
 else ((layOf l).sound (digs a), 0)
theorem err0 (l : List UInt8) (h : (errOf l).1 = 0) : l.length <= 256 /\ z16 0 0 l = -1 /\ (layOf l).big = false /\ (∀ j, j < (layOf l).rts.length -> (layOf l).crooked ((layOf l).rt j) = false) /\ (∀ j, j < (layOf l).tns.length -> (layOf l).stray j = false) /\ (layOf l).sound (List.replicate (layOf l).tns.length 0) = true := by
 unfold errOf at h
 by_cases h1 : 256 < l.length
 ·rw [if_pos h1] at h; cases h
 rw [if_neg h1] at h
 by_cases h2 : z16 0 0 l = -1
 ·rw [if_neg (by simp [h2])] at h
  cases h3 : (layOf l).big with
  | true => rw [h3] at h; cases h
  | false =>
   rw [h3, if_neg (by simp)] at h
   cases h4 : (List.range (layOf l).rts.length).find? (fun i => (layOf l).crooked ((layOf l).rt i)) with
   | some i => rw [h4] at h; cases h
   | none =>
    rw [h4] at h
    simp only at h
    cases h5 : (List.range (layOf l).tns.length).find? (fun i => (layOf l).stray i) with
    | some i => rw [h5] at h; cases h
    | none =>
     rw [h5] at h
     simp only at h
     cases h6 : (layOf l).sound (List.replicate (layOf l).tns.length 0) with
     | false => rw [h6] at h; cases h
     | true =>
      rw [List.find?_eq_none] at h4 h5
      refine ⟨by omega, h2, rfl, fun j hj => ?_, fun j hj => ?_, rfl⟩
      ·simpa using h4 j (List.mem_range.2 hj)
      ·simpa using h5 j (List.mem_range.2 hj)
 ·rw [if_pos h2] at h; cases h
set_option maxHeartbeats 1000000 in
theorem rSafe_any (s a : ByteArray) (w : World) (hF : FormOK) :
  Calls Tryz.prog 63 #[.string s, .string a] w fun e w' => e = .returned (.tuple #[.bool (z3u s.data.toList a.data.toList).1, .int .i64 (z3u s.data.toList a.data.toList).2]) /\ Below w.heap.size w w' := by
 have H := zh (Read_any s w (fun h => hF _ (by simpa using h)))
 have HE0 := zh (err0 s.data.toList)
 have HFO := zh (hF s.data.toList)
 obtain ⟨Z, hZ⟩ : ∃ Z, Z = z3u s.data.toList a.data.toList := ⟨_, rfl⟩
 rw [<- hZ]
 unfold z3u at hZ
 have HZ := zh hZ
 clear hZ
 go_enter Tryz.func63, Tryz.ntmps63
 go_wp2_with fail
 refine (uh H).mono ?_
 rintro e w1 ⟨v, rfl, ⟨T, D, Q, a1, a2, a3, n1, n2, n3, d1, d2, d3, rfl⟩, hR, hb⟩
 have HRP := zh hR
 have HB := zh hb
 clear hR hb H
 by_cases h0 : (errOf s.data.toList).1 = 0
 ·obtain ⟨k1, k2, k3, k4, k5, k6⟩ := uh HE0 h0
  have hform := uh HFO k1 k2
  have hR := uh HRP h0
  rw [if_neg (by simp [h0])] at HZ
  have hpaths : (layOf s.data.toList).Paths := by obtain ⟨-, -, -, -, p0, p1, p2, p3, -, -, -, h⟩ := hform; exact h
  have hjn := jnys_of _ k5
  have htl : (layOf s.data.toList).tns.length <= 5 := by
   unfold Lay.big at k3
   simp only [Bool.or_eq_false_iff, decide_eq_false_iff_not] at k3
   omega
  generalize layOf s.data.toList = L at *
  generalize errOf s.data.toList = E at *
  have hE' : ((E.1 : Int) != 0) = false := by simp [h0]
  have HJ := zh hjn
  have HPA := zh hpaths
  have HR := zh hR
  clear HRP HE0 HFO k1 k2 k3 k4 k5 k6 hform hR hjn hpaths h0
  obtain ⟨o, ho⟩ : ∃ o : Obj, o = .cells #[.int .i64 T, .int .i64 D, .int .i64 Q, .slice a1 n1 d1, .slice a2 n2 d2, .slice a3 n3 d3] 130 := ⟨_, rfl⟩
  have HST := zh (state_any _ L a _ ((uh HR).below (z02 w1 (.cells #[.int .i64 T, .int .i64 D, .int .i64 Q, .slice a1 n1 d1, .slice a2 n2 d2, .slice a3 n3 d3] 130))) (by omega))
  clear ho
  cases hst : L.stateB a.data.toList with
  | false =>
   rw [hst] at HZ HST
   have HZ2 := zh (show Z = (false, 7) by rw [uh HZ]; rfl)
   clear hst HZ
   go_wp2_with fail
   refine (uh HST).mono ?_
   rintro e w2 ⟨v', rfl, -, hb2⟩
   have hb3 := zh ((uh HB).trans (((z02 w1 _).trans (hb2.mono (by simp))).mono (uh HB).size))
   clear hb2
   go_wp2
   go_ret2
   exact ⟨by rw [uh HZ2] <;> rfl, uh hb3⟩
  | true =>
   rw [hst] at HZ HST
   have HZ2 := zh (show Z = (L.sound (digs a.data.toList), 0) by rw [uh HZ]; rfl)
   have hlen : (digs a.data.toList).length = L.tns.length := by
    unfold Lay.stateB at hst
    simp only [Bool.and_eq_true, beq_iff_eq] at hst
    simpa [digs] using hst.1
   have HLEN := zh hlen
   clear hst HZ hlen
   go_wp2_with fail
   refine (uh HST).mono ?_
   rintro e w2 ⟨v', rfl, hI, hb2⟩
   have hbox : Below (w1.heap.size + 1) (w1.alloc (.cells #[.int .i64 T, .int .i64 D, .int .i64 Q, .slice a1 n1 d1, .slice a2 n2 d2, .slice a3 n3 d3] 130)) w2 := hb2.mono (by simp)
   have q0 := z0j hbox 0
   have q1 := z0j hbox 1
   have q2 := z0j hbox 2
   have q3 := z0j hbox 3
   have q4 := z0j hbox 4
   have q5 := z0j hbox 5
   simp at q0 q1 q2 q3 q4 q5
   have HBX := zh hbox
   have HIN := zh (hI (by trivial))
   clear hb2 hI hbox
   go_wp2_with fail
   refine (sound_any _ _ L (digs a.data.toList) _ ((uh HR).below (z05 (uh HBX))) (uh HIN) (uh HLEN) (uh HPA) (uh HJ) (by omega)).mono ?_
   rintro e w3 ⟨rfl, hb3⟩
   have hb4 := zh ((uh HB).trans (((z05 (uh HBX)).trans (hb3.mono (by have := z33 (uh HBX); omega))).mono (uh HB).size))
   clear hb3
   go_wp2
   go_ret2
   exact ⟨by rw [uh HZ2] <;> rfl, uh hb4⟩
 ·rw [if_pos h0] at HZ
  generalize errOf s.data.toList = E at *
  have hE' : ((E.1 : Int) != 0) = true := by simp; omega
  clear HRP HE0 HFO h0
  go_wp2
  go_ret2
  exact ⟨by rw [uh HZ] <;> rfl, (uh HB).trans ((z02 _ _).mono (uh HB).size)⟩
set_option maxHeartbeats 1000000 in
theorem rLocks_any (g : Nat) (B : RBx) (w : World) (h : RBoxAt w g B) (hs : B.L.sw.length <= 1000) (hl : B.lines.length <= B.L.rts.length) (hr : B.L.rts.length <= 100) (hgo : ∀ x, x ∈ B.lines -> x.gone <= 1000) :
  Calls Tryz.prog 66 #[.pointer (some ⟨g, 0, none⟩)] w fun e w' => e = .returned (.string (z09 B.locksT)) /\ Below w.heap.size w w' := by
 have HLB := zh (fun (s : Nat) (wz : World) (hz : Below w.heap.size w wz) => rlocked_any g B s wz (h.below hz) hl (by omega) hgo)
 have HR := zh (show ∀ s r, B.lockedBy s = some r -> r < 100 by
  intro s r he
  unfold RBx.lockedBy at he
  have := List.mem_range.1 (List.mem_of_find?_eq_some he)
  omega)
 obtain ⟨vh, vr, vt, vl, vw, vf, vd, va, vq, hB, hH, -⟩ := h
 obtain ⟨ao, cap, rfl, -, hm, -⟩ := SlAt.open hH
 obtain ⟨⟨q3, -⟩, -, qg⟩ := box12 hB
 unfold RBx.locksT
 generalize B.lockedBy = f at *
 generalize B.L.sw = l at *
 unfold maxLen at hm
 clear hH hB hgo hl hr
 have kc := Tryz.oneStr
 go_enter Tryz.func66, Tryz.ntmps66
 go_wp2
 go_loopw [3, 4] (fun d i wr => ∃ k : Nat, k <= l.length /\ i = .int .i64 k /\ d = .string (z09 ((List.range k).map (fun s => lockC (f s)))) /\ Below w.heap.size w wr) (fun _ i _ => l.length - (intOf i).toNat)
 case atStart => exact ⟨0, Nat.zero_le _, rfl, rfl, Below.refl _ _⟩
 case round =>
  obtain ⟨k, hk, rfl, rfl, hb⟩ := hrel
  have hsz := z0n ((List.range k).map (fun s => lockC (f s)))
  rw [List.length_map, List.length_range] at hsz
  obtain ⟨p, hp⟩ : ∃ p, p = z09 ((List.range k).map (fun s => lockC (f s))) := ⟨_, rfl⟩
  rw [<- hp] at hsz ⊢
  have HP := zh hp
  rw [<- hb.cell (p := ⟨g, 3, none⟩) qg] at q3
  have HB := zh hb
  have hbs := hb.size
  clear hp hb
  by_cases hlt : k < l.length
  ·have HS := zh (show z09 ((List.range (k + 1)).map (fun s => lockC (f s))) = p ++ ⟨#[UInt8.ofNat (lockC (f k))]⟩ by
    rw [uh HP, List.range_succ, List.map_append, <- z10]; rfl)
   have HRK := zh (uh HR k)
   have HLK := zh (uh HLB k wr (uh HB))
   generalize f k = o at *
   clear HLB HR
   go_wp2_with fail
   refine (uh HLK).mono ?_
   rintro e w1 ⟨rfl, rfl⟩
   clear HLK
   cases o with
   | none =>
    simp only [optI]
    go_wp2
    exact ⟨⟨k + 1, by omega, by go_num, by first | (rw [uh HS]; done) | (rw [uh HS]; rfl), (uh HB).alloc hbs _⟩, by simp [intOf]; omega⟩
   | some r =>
    have hr1 := uh HRK r rfl
    have u1 := wrap8 (65 + (r : Int)) (by omega) (by omega)
    have u2 : (65 + (r : Int)).toNat = 65 + r := by omega
    simp only [optI]
    go_wp2
    exact ⟨⟨k + 1, by omega, by go_num, by first | (rw [uh HS]; done) | (rw [uh HS]; rfl) | (rw [uh HS]; simp [lockC]; done), (uh HB).alloc hbs _⟩, by simp [intOf]; omega⟩
  ·obtain rfl : k = l.length := by omega
   clear HLB HR
   go_wp2
   go_ret
   exact ⟨by first | (rw [uh HP]; done) | (rw [<- uh HP]; rfl), uh HB⟩
def RBx.init (L : Lay) : RBx := ⟨L, List.replicate L.rts.length RLn0, L.sw.map (fun b => if b then 43 else 0), List.replicate L.sw.length false, List.replicate L.sw.length 0, List.replicate L.tns.length 0, []⟩
def z3v : List Value := [.int .u8 46, .int .i64 0, .bool false, .slice none 0 0, .int .i64 0, .int .i64 0]
theorem Tryz.infoLine : (Tryz.prog.info? 161).map (fun i => (i.zero, i.size, i.bytes)) = some (some (.agg #[.int .u8 0, .int .i64 0, .bool false, .slice none 0 0, .int .i64 0, .int .i64 0]), 6, 64) := by kernel_rfl
def rbox (L : Lay) (vh vr vt vl vw vf vd : Value) : Obj := .cells #[.int .i64 L.T, .int .i64 L.D, .int .i64 L.Q, vh, vr, vt, vl, vw, vf, vd, .slice none 0 0, .slice none 0 0] 159
def NMid (w1 : World) (L : Lay) (vh vr vt : Value) (wr : World) (vl vw vf vd : Value) : Prop :=
 wr.heap[w1.heap.size]? = some (z0v L vh vr vt) /\ wr.heap[w1.heap.size + 1]? = some (rbox L vh vr vt vl vw vf vd) /\ Below w1.heap.size w1 wr
theorem NMid.append {w1 : World} {L : Lay} {vh vr vt vl vw vf vd v : Value} {wr w2 : World} {e : TypeId} {size n : Nat} {xs : List Value} {o : Obj} (h : NMid w1 L vh vr vt wr vl vw vf vd) (hown : wr.ownsRow (w1.heap.size + 2) e size v n xs)
  (hg : (wr.alloc o).grownBy w2 v.ownBlock) (h1 : e ≠ 130) (h2 : e ≠ 159) : NMid w1 L vh vr vt w2 vl vw vf vd :=
 ⟨(z07 hown hg h1 _ _ _ h.1).trans h.1, (z07 hown hg h2 _ _ _ h.2.1).trans h.2.1,
  (h.2.2.alloc h.2.2.size o).grown hg (by have := h.2.2.size; simp; omega) (fun k hk => by have := (hown.lt k hk).1; omega)⟩
theorem NMid.typed {w1 : World} {L : Lay} {vh vr vt vl vw vf vd : Value} {wr : World} (h : NMid w1 L vh vr vt wr vl vw vf vd) : Typed wr (w1.heap.size + 1) 159 := ⟨_, _, h.2.1⟩
theorem NMid.store {w1 : World} {L : Lay} {vh vr vt vl vw vf vd : Value} {wr : World} (h : NMid w1 L vh vr vt wr vl vw vf vd) (u : Value) :
  NMid w1 L vh vr vt (wr.setCell ⟨w1.heap.size + 1, 6, none⟩ u) u vw vf vd /\ NMid w1 L vh vr vt (wr.setCell ⟨w1.heap.size + 1, 7, none⟩ u) vl u vf vd ∧
  NMid w1 L vh vr vt (wr.setCell ⟨w1.heap.size + 1, 8, none⟩ u) vl vw u vd /\ NMid w1 L vh vr vt (wr.setCell ⟨w1.heap.size + 1, 9, none⟩ u) vl vw vf u := by
 have hz : ∀ j, (wr.setCell ⟨w1.heap.size + 1, j, none⟩ u).heap[w1.heap.size]? = some (z0v L vh vr vt) := fun j => by
  rw [Below.heap_setCell _ _ _ _ (by simp)]; exact h.1
 have hb : ∀ j, Below w1.heap.size w1 (wr.setCell ⟨w1.heap.size + 1, j, none⟩ u) := fun j => h.2.2.setCell (p := ⟨w1.heap.size + 1, j, none⟩) (by simp) u
 exact ⟨⟨hz 6, z08 u h.2.1, hb 6⟩, ⟨hz 7, z08 u h.2.1, hb 7⟩, ⟨hz 8, z08 u h.2.1, hb 8⟩, ⟨hz 9, z08 u h.2.1, hb 9⟩⟩
theorem intsV_rep (k x : Nat) : intsV (List.replicate (k + 1) x) = intsV (List.replicate k x) ++ [.int .i64 x] := by rw [List.replicate_succ', z0p]
theorem boolsV_rep (k : Nat) (x : Bool) : z0t (List.replicate (k + 1) x) = z0t (List.replicate k x) ++ [.bool x] := by rw [List.replicate_succ', z2h]
theorem flat_rep (k : Nat) (c : List Value) : (List.replicate (k + 1) c).flatten = (List.replicate k c).flatten ++ c := by rw [List.replicate_succ', List.flatten_append]; simp
theorem all2_rep {α β : Type} {R : α -> β -> Prop} {a : α} {b : β} (h : R a b) : ∀ n, All2 R (List.replicate n a) (List.replicate n b)
 | 0 => trivial
 | n + 1 => ⟨h, all2_rep h n⟩
theorem ln0 (w : World) : CRLn w RLn0 z3v := ⟨_, rfl, SlAt.nil _ _ _ _⟩
end Go.Proofs.YtkbpocecbcaiiaaGreatDoor
