import Derived.Test.YtkbpocecbcaiiaaGreatDoorJ28
import Derived.StillTailTactics
namespace Go.Proofs.YtkbpocecbcaiiaaGreatDoor
open Go.RowKit
def RBx.stepN (C : RBx) (f : Fr) : Nat -> RBx
 | 0 => C
 | k + 1 => (C.stepN f k).step f k
def RBx.doN (C : RBx) (f : Fr) : Nat -> RBx
 | 0 => C
 | k + 1 => (C.doN f k).doC f (pk f.cmds (2 * k)) (pk f.cmds (2 * k + 1))
def RBx.doAt (C : RBx) (f : Fr) (j : Nat) : Nat := (C.doN f j).doA (pk f.cmds (2 * j)) (pk f.cmds (2 * j + 1))
def RBx.doAs (C : RBx) (f : Fr) (k : Nat) : List Nat := (List.range k).map (C.doAt f)
def RBx.s1 (C : RBx) (f : Fr) : RBx := C.watch f
def RBx.s2 (C : RBx) (f : Fr) : RBx := (C.s1 f).stepN f (C.s1 f).lines.length
def RBx.s3 (C : RBx) (f : Fr) : RBx := (C.s2 f).doN f (f.cmds.size / 2)
def RBx.s4 (C : RBx) (f : Fr) : RBx := (C.s3 f).grants f
def rlampC (x : RLn) : Nat := if x.ph = 103 then 103 else 114
def RBx.lampsT (C : RBx) : List Nat := C.lines.map rlampC
def RBx.moveT (C : RBx) (f : Fr) (s : Nat) : List Nat := if C.L.sw.getD s false then [C.moveF f s] else []
def RBx.movesT (C : RBx) (f : Fr) : List Nat := (List.range C.L.sw.length).flatMap (C.moveT f)
def ansL (lamps moves as_ sv : List Nat) : List Nat := [61] ++ lamps ++ [47] ++ moves ++ [47] ++ as_ ++ [47] ++ sv
def RBx.ansB (C : RBx) (f : Fr) : List Nat := ansL (C.s4 f).lampsT ((C.s4 f).movesT f) ((C.s2 f).doAs f (f.cmds.size / 2)) (((C.s3 f).servN f (C.s3 f).waits.length).map (49 + ·))
def RBx.cyc (C : RBx) (s : ByteArray) : RBx := if C.L.frameB s then C.s4 (C.L.frOf s) else C
def RBx.ans (C : RBx) (s : ByteArray) : ByteArray := if C.L.frameB s then z09 (C.ansB (C.L.frOf s)) else ⟨#[33]⟩
theorem rmoveT_len (C : RBx) (f : Fr) (s : Nat) : (C.moveT f s).length <= 1 := by unfold RBx.moveT; split <;> simp
theorem rmovesN_len (C : RBx) (f : Fr) (k : Nat) : ((List.range k).flatMap (C.moveT f)).length <= k := by
 induction k with
 | zero => simp
 | succ k ih =>
  rw [List.range_succ, List.flatMap_append, List.length_append]
  have := rmoveT_len C f k
  simp only [List.flatMap_cons, List.flatMap_nil, List.append_nil]
  omega
theorem rmovesN_snoc (C : RBx) (f : Fr) (k : Nat) : (List.range (k + 1)).flatMap (C.moveT f) = (List.range k).flatMap (C.moveT f) ++ C.moveT f k := by
 rw [List.range_succ, List.flatMap_append]
 simp
structure RCyc (C : RBx) (f : Fr) : Prop where
 wo : WatchOK C f
 st : ∀ k, k < (C.s1 f).lines.length -> StepOK ((C.s1 f).stepN f k) f k /\ ((C.s1 f).stepN f k).lines.length = (C.s1 f).lines.length
 sl : (C.s1 f).lines.length <= 1000
 dd : ∀ k, k < f.cmds.size / 2 -> DoOK ((C.s2 f).doN f k) f /\ ((C.s2 f).doN f k).L.cmdB (pk f.cmds (2 * k)) (pk f.cmds (2 * k + 1)) = true
 cz : f.cmds.size <= 1000
 ce : f.cmds.size % 2 = 0
 gr : ∀ k (hk : k < (C.s3 f).waits.length), GrantOK ((C.s3 f).grantN f k) f (C.s3 f).waits[k]
 w3 : (C.s3 f).waits.length <= 1000
 h9 : ∀ t, t ∈ (C.s3 f).waits -> t < 9
 w4 : WatchOK (C.s4 f) f
 o4 : f.occ.length = (C.s4 f).L.sw.length
set_option maxRecDepth 100000 in
set_option maxHeartbeats 8000000 in
theorem rCycle_any (D : Nat -> Prop) (g : Nat) (C : RBx) (s : ByteArray) (w : World) (h : RBoxIn w D g C) (hsw : C.L.sw.length <= 1000) (hc : C.L.frameB s = true -> RCyc C (C.L.frOf s)) :
  Calls Tryz.prog 60 #[.pointer (some ⟨g, 0, none⟩), .string s] w fun e w' => e = .returned (.string (C.ans s)) /\ RBoxIn w' (growR D w w') g (C.cyc s) /\ Only D w w' := by
 obtain ⟨vq, hB⟩ := h
 have HRD := zh (rframe_any g C s w hB.at hsw)
 have HB := zh hB
 have HC := zh hc
 have HAN := zh (And.intro (RBx.ans.eq_1 C s) (RBx.cyc.eq_1 C s))
 have HDD := zh hB.lt
 clear hB hc
 obtain ⟨f, hf⟩ : ∃ f, C.L.frOf s = f := ⟨_, rfl⟩
 rw [hf] at HAN HC HRD
 clear hf
 obtain ⟨bf, hbf⟩ : ∃ b, C.L.frameB s = b := ⟨_, rfl⟩
 rw [hbf] at HAN HC HRD
 clear hbf
 go_enter Tryz.func60, Tryz.ntmps60
 go_wp2_with fail
 refine (uh HRD).mono ?_
 rintro e w1 ⟨v1, rfl, ⟨a1, a2, n1, n2, c1, c2, tx, rfl⟩, hF1, hb1⟩
 have HB1 := zh hb1
 clear HRD
 cases bf with
 | false =>
  have HA2 := zh (show C.ans s = ⟨#[33]⟩ /\ C.cyc s = C from ⟨(uh HAN).1, (uh HAN).2⟩)
  clear hF1 hb1
  go_wp2
  go_ret
  have hb2 := (uh HB1).trans ((z02 w1 (.cells #[.slice a1 n1 c1, .slice a2 n2 c2, .string tx] 163)).mono (uh HB1).size)
  refine ⟨by rw [(uh HA2).1] <;> rfl, ?_, Only.of_below hb2⟩
  rw [(uh HA2).2]
  exact ⟨vq, ((uh HB).only (Only.of_below (F := fun _ => False) hb2) (fun _ _ h => h)).mono (fun b hb => Or.inl hb) (growR_lt (uh HDD) hb2.size)⟩
 | true =>
  have HA2 := zh (show C.ans s = z09 (C.ansB f) /\ C.cyc s = C.s4 f from ⟨(uh HAN).1, (uh HAN).2⟩)
  have hCO := uh HC rfl
  have HCO := zh hCO
  have hfr := hF1 rfl
  have hD := uh HDD
  have hrf0 : RF w1 D (fun k => w.heap.size <= k /\ k < w1.heap.size) g C (.agg #[.slice a1 n1 c1, .slice a2 n2 c2, .string tx]) f vq :=
   ⟨(uh HB).only (Only.of_below (F := fun _ => False) hb1) (fun _ _ h => h), hfr, fun b hb hd => by have := hD b hd; have := hb.1; omega⟩
  obtain ⟨W2, hW2⟩ : ∃ W2, W2 = w1.alloc (rfrBox (.slice a1 n1 c1) (.slice a2 n2 c2) tx) := ⟨_, rfl⟩
  have hrf2 := hrf0.below (z02 w1 (rfrBox (.slice a1 n1 c1) (.slice a2 n2 c2) tx))
  have hfb2 := heap_alloc_new w1 (rfrBox (.slice a1 n1 c1) (.slice a2 n2 c2) tx)
  have hbw2 : Below w.heap.size w W2 := by rw [hW2]; exact hb1.trans ((z02 w1 _).mono hb1.size)
  rw [<- hW2] at hrf2 hfb2
  have htx : tx = f.cmds := by
   obtain ⟨vo, vp, he, -⟩ := hfr.at
   simp only [Value.agg.injEq, Array.mk.injEq, List.cons.injEq, and_true, Value.string.injEq] at he
   exact he.2.2
  have HTX := zh htx
  have hlw : w.heap.size <= w1.heap.size := hb1.size
  have HS2 := zh (show StgR w W2 w1.heap.size (rfrBox (.slice a1 n1 c1) (.slice a2 n2 c2) tx) D D (fun k => w.heap.size <= k /\ k < w1.heap.size) g C (.agg #[.slice a1 n1 c1, .slice a2 n2 c2, .string tx]) f vq from ⟨hrf2, fun b hb => Or.inl hb, Only.of_below hbw2, hfb2⟩)
  have H1 := zh (watch_f D _ g C _ f vq W2 hrf2 hCO.wo)
  rw [hW2] at H1
  clear hF1 hfr hrf0 hrf2 hfb2 hbw2 hb1 hCO hD htx
  go_wp2_with fail
  refine (uh H1).mono ?_
  rw [<- hW2]
  rintro e w3 ⟨rfl, hB3, hO3⟩
  have HS3 := zh ((uh HS2).op (uh HDD) hlw hB3 hO3)
  clear hB3 hO3 H1 HS2 hW2
  obtain ⟨D3, hD3⟩ : ∃ D3, D3 = growR D W2 w3 := ⟨_, rfl⟩
  rw [<- hD3] at HS3
  clear hD3
  have HST := zh (uh HCO).st
  have hsl := (uh HCO).sl
  have HC1 := zh (show (C.s1 f).stepN f (C.s1 f).lines.length = C.s2 f from rfl)
  obtain ⟨C1, hC1⟩ : ∃ C1, C.watch f = C1 := ⟨_, rfl⟩
  have hC1' : C.s1 f = C1 := hC1
  rw [hC1] at HS3
  rw [hC1'] at HST HC1 hsl
  clear hC1 hC1'
  obtain ⟨nl, hnl⟩ : ∃ n, C1.lines.length = n := ⟨_, rfl⟩
  rw [hnl] at HST HC1 hsl
  have HNL := zh hnl
  clear hnl
  go_wp2
  go_loopw [7] (fun i wr => ∃ k : Nat, ∃ Dk, i = .int .i64 k /\ k <= nl /\ StgR w wr w1.heap.size (rfrBox (.slice a1 n1 c1) (.slice a2 n2 c2) tx) D Dk (fun k => w.heap.size <= k /\ k < w1.heap.size) g (C1.stepN f k) (.agg #[.slice a1 n1 c1, .slice a2 n2 c2, .string tx]) f vq) (fun i _ => nl - (intOf i).toNat)
  case atStart => exact ⟨0, D3, rfl, Nat.zero_le _, uh HS3⟩
  case round =>
   clear HS3
   obtain ⟨k, Dk, rfl, hk, hS⟩ := hrel
   obtain ⟨R1, vh1, vr1, vt1, vl1, vw1, vf1, vd1, va1, ms1, hM1, hR1, hD1, hO1⟩ := hS.rf.box
   obtain ⟨⟨-, -, -, q6, -⟩, -, qg⟩ := box12 hM1.box
   obtain ⟨al, cl, hvl⟩ := z03 hM1.lines
   subst hvl
   have hnk : (C1.stepN f k).lines.length = nl := by
    by_cases hlt : k < nl
    ·exact (uh HST k hlt).2
    ·obtain rfl : k = nl := by omega
     cases k with
     | zero => exact uh HNL
     | succ j =>
      have h5 := (uh HST j (by omega)).2
      show ((C1.stepN f j).step f j).lines.length = j + 1
      rw [<- h5]
      unfold RBx.step RBx.overtaken RBx.passed RBx.put
      repeat' split
      all_goals simp [h5]
   rw [hnk] at q6
   by_cases hlt : k < nl
   ·have H4 := zh (step_f Dk _ g (C1.stepN f k) _ f vq k wr hS.rf (by rw [hnk]; exact hlt) (uh HST k hlt).1)
    obtain ⟨⟨y0, y1, y2⟩, -, qf⟩ := tri0 hS.fr
    have HS := zh hS
    have l1 : (k : Int) < nl := by omega
    clear hM1 hR1 hD1 hO1 hS hnk
    go_wp2_with fail
    refine (uh H4).mono ?_
    rintro e w4 ⟨rfl, hB4, hO4⟩
    have HS4 := zh ((uh HS).op (uh HDD) hlw hB4 hO4)
    clear hB4 hO4 y0 y1 y2 q6
    go_wp2
    exact ⟨⟨k + 1, _, by go_num, by omega, uh HS4⟩, by simp [intOf]; omega⟩
   ·obtain rfl : k = nl := by omega
    have l1 : ¬ (k : Int) < k := by omega
    rw [uh HC1] at hS
    have HS := zh hS
    have HDO := zh (uh HCO).dd
    have hcz := (uh HCO).cz
    have hce := (uh HCO).ce
    have htx := uh HTX
    rw [<- htx] at hcz hce HDO
    have HC2 := zh (show (C.s2 f).doN f (tx.size / 2) = C.s3 f by rw [htx]; rfl)
    have HDN := zh (show ∀ j, (C.s2 f).doN f (j + 1) = ((C.s2 f).doN f j).doC f (pk tx (2 * j)) (pk tx (2 * j + 1)) by intro j; rw [htx]; rfl)
    have HDT := zh (show ∀ j, (C.s2 f).doAt f j = ((C.s2 f).doN f j).doA (pk tx (2 * j)) (pk tx (2 * j + 1)) by intro j; rw [htx]; rfl)
    have kc := Tryz.oneStr
    obtain ⟨C2, hC2⟩ : ∃ C2, C.s2 f = C2 := ⟨_, rfl⟩
    rw [hC2] at HC2 HS HDO HDN HDT
    have HEQ2 := zh hC2
    clear hS hM1 hR1 hD1 hO1 hnk hC2 htx
    go_wp2
    go_loopw [8, 9] (fun d i wr => ∃ m j : Nat, ∃ Dk vq, i = .int .i64 m /\ m = 2 * j /\ m <= tx.size /\ d = .string (z09 (C2.doAs f j)) /\ StgR w wr w1.heap.size (rfrBox (.slice a1 n1 c1) (.slice a2 n2 c2) tx) D Dk (fun k => w.heap.size <= k /\ k < w1.heap.size) g (C2.doN f j) (.agg #[.slice a1 n1 c1, .slice a2 n2 c2, .string tx]) f vq) (fun _ i _ => tx.size - (intOf i).toNat)
    case atStart => exact ⟨0, 0, Dk, vq, rfl, rfl, Nat.zero_le _, rfl, uh HS⟩
    case round =>
     clear HS q6
     obtain ⟨m, j, Dj, vqj, rfl, hmj, hmt, rfl, hS⟩ := hrel
     obtain ⟨⟨y0, y1, y2⟩, -, qf⟩ := tri0 hS.fr
     obtain ⟨m1, hm1⟩ : ∃ m1 : Nat, (m : Int) + 1 = m1 := ⟨m + 1, by omega⟩
     have hm1' : m1 = m + 1 := by omega
     have hwrp : IntKind.i64.wrap ((m : Int) + 1) = (m1 : Int) := by rw [hm1]; exact Go.IntWalk.i64_in _ (by omega)
     have hwrq : IntKind.i64.wrap (m1 : Int) = (m1 : Int) := Go.IntWalk.i64_in _ (by omega)
     have hsz := z0n (C2.doAs f j)
     have hjl : (C2.doAs f j).length = j := by simp [RBx.doAs]
     rw [hjl] at hsz
     have HSN := zh (show z09 (C2.doAs f (j + 1)) = z09 (C2.doAs f j) ++ ⟨#[UInt8.ofNat (C2.doAt f j)]⟩ by
      rw [<- z10]; congr 1; unfold RBx.doAs; rw [List.range_succ, List.map_append]; rfl)
     obtain ⟨p, hp⟩ : ∃ p, p = z09 (C2.doAs f j) := ⟨_, rfl⟩
     rw [<- hp] at hsz HSN ⊢
     have HP := zh hp
     clear hp hjl
     have HS := zh hS
     by_cases hlt : m1 < tx.size
     ·have e1 : (m1 : Int) < tx.size := by omega
      have e3 : (0 : Int) <= m1 := by omega
      have e2 : (m : Int) < tx.size := by omega
      have e0 : (0 : Int) <= m := by omega
      have hm0 : m < tx.size := by omega
      have d0 := (pk_in tx m hm0).symm
      have d1 := (pk_in tx m1 hlt).symm
      have p0 := pk_lt tx m
      have p1 := pk_lt tx m1
      obtain ⟨hdo, hcmd⟩ := uh HDO j (by omega)
      have hj0 : 2 * j = m := hmj.symm
      have hj1 : 2 * j + 1 = m1 := by omega
      have hcm2 : (C2.doN f j).L.cmdB (pk tx m) (pk tx m1) = true := by
       rw [hj1, hj0] at hcmd
       exact hcmd
      have HDO1 := zh (fun (wz : World) (hz : Below wr.heap.size wr wz) => do_f Dj _ g (C2.doN f j) _ f vqj (pk tx m) (pk tx m1) wz (hS.rf.below hz) p1 hcm2 hdo)
      have HNX := zh (show C2.doN f (j + 1) = (C2.doN f j).doC f (pk tx m) (pk tx m1) by rw [uh HDN, hj1, hj0])
      have HNA := zh (show C2.doAt f j = (C2.doN f j).doA (pk tx m) (pk tx m1) by rw [uh HDT, hj1, hj0])
      have HMJ := zh (And.intro hmj hm1')
      have hjb : j <= 500 := by omega
      clear hcmd hdo hcm2 hS hmj hm1' hj0 hj1
      generalize pk tx m = ca at *
      generalize pk tx m1 = cb at *
      obtain ⟨za, hza⟩ : ∃ z, (C2.doN f j).doA ca cb = z := ⟨_, rfl⟩
      rw [hza] at HDO1 HNA
      have HZA := zh hza
      clear hza
      go_wp2
      go_cut [10] from 40 to 64 (fun v wx => v = .int .u8 za /\ ∃ Dc vqc, StgR w wx w1.heap.size (rfrBox (.slice a1 n1 c1) (.slice a2 n2 c2) tx) D Dc (fun k => w.heap.size <= k /\ k < w1.heap.size) g ((C2.doN f j).doC f ca cb) (.agg #[.slice a1 n1 c1, .slice a2 n2 c2, .string tx]) f vqc)
      case first =>
       go_still_tail 11, (by rfl)
       go_wp2_with fail
       refine (uh HDO1 _ ?_).mono ?_
       ·exact (Below.refl _ _).drew
       ·rintro e w5 ⟨rfl, ⟨vq5, hB5⟩, hO5⟩
        have HS5 := zh (((uh HS).below ((Below.refl _ _).drew)).op (uh HDD) hlw hB5 hO5)
        clear hB5 hO5
        go_wp2_with fail
        go_meet
        exact ⟨rfl, _, vq5, uh HS5⟩
      case rest =>
       obtain ⟨rfl, Dc, vqc, hSc⟩ := hcut
       have HSc := zh hSc
       have hza := uh HNA
       have HSN2 := zh (show z09 (C2.doAs f (j + 1)) = p ++ ⟨#[UInt8.ofNat za]⟩ by rw [uh HSN, hza])
       clear hSc y0 y1 y2 hza
       go_wp2
       have hmj2 := uh HMJ
       exact ⟨⟨m + 2, j + 1, _, vqc, by go_num, by omega, by omega, by first | (rw [uh HSN2]; done) | (rw [uh HSN2]; simp; done), by rw [uh HNX]; exact (uh HSc).below (z02 _ _)⟩, by simp [intOf]; omega⟩
     ·have hje : j = tx.size / 2 := by omega
      have hjb : j <= 500 := by omega
      have e1 : (tx.size : Int) <= m1 := by omega
      have e2 : ¬ (m1 : Int) < tx.size := by omega
      have hS3 := uh HS
      rw [hje, uh HC2] at hS3
      have HS3 := zh hS3
      have HA3 := zh (show p = z09 (C2.doAs f (tx.size / 2)) by rw [uh HP, hje])
      have H5 := zh (rgrants_f Dj _ g (C.s3 f) _ f vqj wr hS3.rf (uh HCO).gr (uh HCO).w3 (uh HCO).h9)
      have HC4 := zh (show (C.s3 f).grants f = C.s4 f from rfl)
      have hw4 := (uh HCO).w4
      have HW4 := zh (And.intro hw4 (uh HCO).o4)
      obtain ⟨S, hSv⟩ : ∃ S, ((C.s3 f).servN f (C.s3 f).waits.length).map (49 + ·) = S := ⟨_, rfl⟩
      rw [hSv] at H5
      have HSV := zh hSv
      obtain ⟨C4, hC4⟩ : ∃ C4, C.s4 f = C4 := ⟨_, rfl⟩
      rw [hC4] at HC4 HW4 hw4
      rw [uh HC4] at H5
      have HEQ4 := zh hC4
      have hl4 : C4.lines.length <= 1000 := Nat.le_trans hw4.ll hw4.r1
      have hs4 : C4.L.sw.length <= 1000 := hw4.sw
      clear hS hS3 hje hmj hm1' HSN HDT HDN HDO HC2 HS hSv hC4 hw4
      go_wp2_with fail
      refine (uh H5).mono ?_
      rintro e w5 ⟨rfl, ⟨vq5, hB5⟩, hO5⟩
      have hS5 := (uh HS3).op (uh HDD) hlw hB5 hO5
      have HS5 := zh hS5
      clear y0 y1 y2
      obtain ⟨⟨y0, y1, y2⟩, -, qf5⟩ := tri0 hS5.fr
      obtain ⟨R5, vh5, vr5, vt5, vl5, vw5, vf5, vd5, va5, ms5, hM5, -⟩ := hS5.rf.box
      obtain ⟨⟨q3, -, -, q6, -⟩, -, qg5⟩ := box12 hM5.box
      obtain ⟨al5, cl5, hvl5⟩ := z03 hM5.lines
      subst hvl5
      obtain ⟨ah5, ch5, rfl, -, hmh5, h53⟩ := SlAt.open (hM5.plan.2 w5 (fun _ _ => rfl)).1
      have hL : RLns w5 (.slice al5 C4.lines.length cl5) C4.lines := SlAt.ofOwnN hM5.lines (all2_zip _ _ hM5.mlen (fun i a b => Bools.ofOwn (hM5.marks i a b) rfl)) (z36 _ _) rfl
      obtain ⟨al', cl', he, -, hml, l3⟩ := SlAt.open hL
      simp only [Value.slice.injEq, true_and] at he
      obtain ⟨rfl, rfl⟩ := he
      have HL3 := zh l3
      have HH3 := zh h53
      unfold maxLen at hml hmh5
      have HW := (uh HW4).1
      have HMV := zh (fun (s : Nat) (hs : s < C4.L.sw.length) (wz : World) (hz : Below w5.heap.size w5 wz) => rmove_any g C4 _ f s wz (hM5.at.below hz) (hS5.rf.frame.at.below hz) hs (uh HW4).2 HW.pl HW.fl HW.wl HW.ll HW.r1)
      have HFB := zh hS5.fr
      have HQ3 := zh q3
      clear hS5 hM5 hL l3 h53 hB5 hO5 HW H5
      obtain ⟨nl4, hnl4⟩ : ∃ n, C4.lines.length = n := ⟨_, rfl⟩
      rw [hnl4] at q6 hl4
      have HN4 := zh hnl4
      obtain ⟨ns4, hns4⟩ : ∃ n, C4.L.sw.length = n := ⟨_, rfl⟩
      rw [hns4] at q3 hs4 HMV HQ3
      have HNS := zh hns4
      have hlamp : C4.lampsT.length = nl4 := by simp [RBx.lampsT, hnl4]
      have HLA := zh hlamp
      clear hnl4 hns4 hlamp
      go_wp2
      go_loopw [12, 13] (fun d i wr => ∃ k : Nat, i = .int .i64 k /\ k <= nl4 /\ d = .string (z09 (61 :: C4.lampsT.take k)) /\ Below w5.heap.size w5 wr) (fun _ i _ => nl4 - (intOf i).toNat)
      case atStart => exact ⟨0, rfl, Nat.zero_le _, rfl, Below.refl _ _⟩
      case round =>
       obtain ⟨k4, rfl, hk4, rfl, hb⟩ := hrel
       have hsz4 := z0n (61 :: C4.lampsT.take k4)
       rw [List.length_cons, List.length_take, uh HLA, Nat.min_eq_left hk4] at hsz4
       have hbs := hb.size
       rw [<- hb.cell (p := ⟨g, 6, none⟩) qg5] at q6
       rw [<- hb.cell (p := ⟨g, 3, none⟩) qg5] at q3
       obtain ⟨p4, hp4⟩ : ∃ p, p = z09 (61 :: C4.lampsT.take k4) := ⟨_, rfl⟩
       rw [<- hp4] at hsz4 ⊢
       have HP4 := zh hp4
       clear hp4
       by_cases hlt4 : k4 < nl4
       ·have hkl : k4 < C4.lines.length := by rw [uh HN4]; exact hlt4
        obtain ⟨gl, off, hao, hg, cs, -, hC, hc⟩ := uh HL3 k4 hkl
        subst hao
        obtain ⟨vm, rfl, -⟩ := hC
        have hc0 := hc 0 (by omega)
        rw [<- hb.cell (p := ⟨gl, _, none⟩) hg] at hc0
        simp at hc0
        have HS4 := zh (show z09 (61 :: C4.lampsT.take (k4 + 1)) = p4 ++ ⟨#[UInt8.ofNat (rlampC C4.lines[k4])]⟩ by
         rw [uh HP4, <- z10]
         congr 1
         have hl : k4 < C4.lampsT.length := by rw [uh HLA]; exact hlt4
         rw [List.take_succ_eq_append_getElem hl]
         simp [RBx.lampsT])
        have l4 : (k4 : Int) < nl4 := by omega
        have l5 : (0 : Int) <= k4 := by omega
        have HBB := zh hb
        unfold rlampC at HS4
        obtain ⟨ph, hph⟩ : ∃ x, C4.lines[k4].ph = x := ⟨_, rfl⟩
        rw [hph] at hc0 HS4
        clear hph hc hb hkl
        by_cases h103 : ph = 103
        ·subst h103
         rw [if_pos rfl] at HS4
         go_wp2
         exact ⟨⟨k4 + 1, by go_num, by omega, by rw [uh HS4]; rfl, uh HBB⟩, by simp [intOf]; omega⟩
        ·rw [if_neg h103] at HS4
         have b103 : ((ph : Int) == 103) = false := by simp; omega
         go_wp2
         exact ⟨⟨k4 + 1, by go_num, by omega, by rw [uh HS4]; rfl, uh HBB⟩, by simp [intOf]; omega⟩
       ·obtain rfl : k4 = nl4 := by omega
        have l4 : ¬ (k4 : Int) < k4 := by omega
        have HP5 := zh (show p4 ++ ⟨#[47]⟩ = z09 ([61] ++ C4.lampsT ++ [47]) by
         rw [uh HP4, z10, List.take_of_length_le (by rw [uh HLA]; exact Nat.le_refl _)]; rfl)
        obtain ⟨p5, hp5⟩ : ∃ p, p4 ++ ⟨#[47]⟩ = p := ⟨_, rfl⟩
        have hsz5 : p5.size = k4 + 2 := by rw [<- hp5, ByteArray.size_append, hsz4]; rfl
        rw [hp5] at HP5
        have HB4 := zh hb
        clear hb
        go_wp2
        go_loopw [12, 14] (fun d i wr2 => ∃ k : Nat, i = .int .i64 k /\ k <= ns4 /\ d = .string (p5 ++ z09 ((List.range k).flatMap (C4.moveT f))) /\ Below w5.heap.size w5 wr2) (fun _ i _ => ns4 - (intOf i).toNat)
        case atStart => exact ⟨0, rfl, Nat.zero_le _, by simp [z09]; exact ByteArray.ext (by simp [ByteArray.data_append]), uh HB4⟩
        case round =>
         obtain ⟨k5, rfl, hk5, rfl, hb5⟩ := hrel
         have hm5 := rmovesN_len C4 f k5
         have hsz6 := z0n ((List.range k5).flatMap (C4.moveT f))
         have HSN5 := zh (rmovesN_snoc C4 f k5)
         have HMT := zh (RBx.moveT.eq_1 C4 f k5)
         obtain ⟨q, hq⟩ : ∃ q, z09 ((List.range k5).flatMap (C4.moveT f)) = q := ⟨_, rfl⟩
         rw [hq] at hsz6 ⊢
         have HQ := zh hq
         have hsz7 : (p5 ++ q).size = k4 + 2 + q.size := by rw [ByteArray.size_append, hsz5]
         obtain ⟨p6, hp6⟩ : ∃ p6, p5 ++ q = p6 := ⟨_, rfl⟩
         rw [hp6] at hsz7 ⊢
         have HP6 := zh hp6
         have hp6b : p6.size <= 3000 := by omega
         have hbs5 := hb5.size
         clear hq hp6 hsz6 hsz7 hm5 q6 q3
         obtain ⟨⟨y0, y1, y2⟩, -, qf6⟩ := tri0 ((hb5.block _ qf5).trans (uh HFB))
         have q3 : wr.cell? ⟨g, 3, none⟩ = some (.slice ah5 ns4 ch5) := by rw [hb5.cell (p := ⟨g, 3, none⟩) qg5]; exact uh HQ3
         have hgw5 : g < wr.heap.size := Nat.lt_of_lt_of_le qg5 hbs5
         by_cases hlt5 : k5 < ns4
         ·have hks : k5 < C4.L.sw.length := by rw [uh HNS]; exact hlt5
          obtain ⟨gh, oh, hao, hgh, cs, -, hC, hc⟩ := uh HH3 k5 hks
          subst hao
          unfold CBool at hC
          subst hC
          have hc0 := hc 0 (by omega)
          rw [<- hb5.cell (p := ⟨gh, _, none⟩) hgh] at hc0
          simp at hc0
          rw [z0b _ _ _ hks] at HMT
          have H6 := zh (uh HMV k5 hlt5 wr hb5)
          have HB5 := zh hb5
          have l6 : (k5 : Int) < ns4 := by omega
          have l7 : (0 : Int) <= k5 := by omega
          obtain ⟨bh, hbh⟩ : ∃ b, C4.L.sw[k5] = b := ⟨_, rfl⟩
          rw [hbh] at hc0 HMT
          obtain ⟨mv, hmv⟩ : ∃ m, C4.moveF f k5 = m := ⟨_, rfl⟩
          rw [hmv] at HMT H6
          clear hbh hmv hc hb5 hks
          cases bh with
          | false =>
           have HE := zh (show p6 = p5 ++ z09 ((List.range (k5 + 1)).flatMap (C4.moveT f)) by
            rw [uh HSN5, show C4.moveT f k5 = [] from uh HMT, List.append_nil, uh HQ, uh HP6])
           clear y0 y1 y2 H6
           go_wp2
           exact ⟨⟨k5 + 1, by go_num, by omega, congrArg Value.string (uh HE), uh HB5⟩, by simp [intOf]; omega⟩
          | true =>
           have HE := zh (show p6 ++ ⟨#[UInt8.ofNat mv]⟩ = p5 ++ z09 ((List.range (k5 + 1)).flatMap (C4.moveT f)) by
            rw [uh HSN5, show C4.moveT f k5 = [mv] from uh HMT, z10, uh HQ, <- uh HP6, ByteArray.append_assoc])
           go_wp2_with fail
           refine (uh H6).mono ?_
           rintro e w6 ⟨rfl, hb6⟩
           have HB6 := zh ((uh HB5).trans (hb6.mono hbs5))
           have hbs6 := (uh HB6).size
           clear y0 y1 y2 H6 hb6 q3 hc0
           go_wp2
           exact ⟨⟨k5 + 1, by go_num, by omega, by first | exact congrArg Value.string (uh HE) | (simp; exact uh HE), (uh HB6).alloc hbs6 _⟩, by simp [intOf]; omega⟩
         ·obtain rfl : k5 = ns4 := by omega
          have l6 : ¬ (k5 : Int) < k5 := by omega
          have hpz : p.size <= 500 := by omega
          have hsS := z0n S
          have hSl : S.length <= 1000 := by
           rw [<- uh HSV, List.length_map]
           have := rservN_len (C.s3 f) f (C.s3 f).waits.length
           have := (uh HCO).w3
           omega
          have HE := zh (show ((((p6 ++ ⟨#[47]⟩) ++ p) ++ ⟨#[47]⟩) ++ z09 S) = C.ans s by
           have hmt : C4.movesT f = (List.range k5).flatMap (C4.moveT f) := by unfold RBx.movesT; rw [uh HNS]
           rw [(uh HA2).1]
           unfold RBx.ansB
           rw [uh HEQ4, uh HEQ2, uh HSV, hmt, <- uh HTX, <- uh HP6, <- uh HQ, uh HP5, uh HA3]
           unfold ansL
           rw [show (⟨#[47]⟩ : ByteArray) = z09 [47] from rfl]
           simp only [z1f, ByteArray.append_assoc])
          have HFIN := zh (show RBoxIn wr (growR D w wr) g C4 /\ Only D w wr from by
           have h7 := (uh HS5).below hb5
           refine ⟨⟨vq5, h7.rf.box.mono (fun b hb => ?_) (growR_lt (uh HDD) h7.only.size)⟩, h7.only⟩
           rcases h7.from_ b hb with h8 | h8
           ·exact Or.inl h8
           ·exact Or.inr ⟨h8.1, h7.rf.box.lt b hb⟩)
          obtain ⟨sv, hsv⟩ : ∃ sv, z09 S = sv := ⟨_, rfl⟩
          rw [hsv] at HE hsS ⊢
          clear y0 y1 y2 hb5 hsv
          go_wp2
          go_ret
          refine ⟨congrArg (fun x => Ending.returned (Value.string x)) (uh HE), ?_, (uh HFIN).2⟩
          rw [(uh HA2).2, uh HEQ4]
          exact (uh HFIN).1
end Go.Proofs.YtkbpocecbcaiiaaGreatDoor
