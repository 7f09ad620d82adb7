import Derived.Test.YtkbpocecbcaiiaaGreatDoorH46
namespace Go.Proofs.YtkbpocecbcaiiaaGreatDoor
open Go.RowKit
def FrsIn (w : World) (ao : Option Addr) (len : Nat) (zs : List ByteArray) : Prop := len <= maxLen /\ (len = 0 \/ ∃ g off, ao = some ⟨g, off, none⟩ /\ ∀ j, j < len -> w.cell? ⟨g, off + j, none⟩ = some (.string (zs.getD j ByteArray.empty)))
theorem Only.belowN {F : Nat -> Prop} {w w' : World} {n : Nat} (h : Only F w w') (hF : ∀ b, F b -> n <= b) (hn : n <= w.heap.size) : Below n w w' :=
 ⟨h.os, h.tape, h.output, h.size, fun k hk => h.block k (by omega) (fun hf => by have := hF k hf; omega)⟩
def RunMid (n : Nat) (w wr : World) (gp : Nat) : Prop := ∃ B C, PairIn wr (fun b => n <= b /\ b < wr.heap.size) gp B C /\ Sim B C /\ Inv C /\ Below n w wr /\ n <= wr.heap.size
theorem RunMid.cyc {n : Nat} {w wr : World} {gp : Nat} (h : RunMid n w wr gp) (s : ByteArray) (k : Int) (hk : k = 1 \/ k = 2 \/ k = 3 \/ k = 4) :
  Calls Tryz.prog 24 #[.pointer (some ⟨gp, 0, none⟩), .string s, .int .i64 k] wr fun e w' => e = .returned (.bool true) /\ RunMid n w w' gp := by
 obtain ⟨B, C, h1, h2, h3, h4, h5⟩ := h
 refine (cycle_pair _ gp B C s k wr h1 h2 h3 hk).mono ?_
 rintro e w' ⟨rfl, a, b⟩
 obtain ⟨-, -, c, d, -⟩ := h2.cyc h3 s
 have hz := b.size
 refine ⟨rfl, _, _, a.mono ?_ (fun b hb => hb.2), c, d, h4.trans (b.belowN (fun _ hb => hb.1) h5), by omega⟩
 intro b hb
 rcases hb with hb | hb
 . exact ⟨hb.1, by have := hb.2; omega⟩
 . exact ⟨by omega, hb.2⟩
theorem RunMid.looks {n : Nat} {w wr : World} {gp : Nat} (h : RunMid n w wr gp) (k : Int) (hk : k = 1 \/ k = 2 \/ k = 3 \/ k = 4) :
  Calls Tryz.prog 14 #[.pointer (some ⟨gp, 0, none⟩), .int .i64 k] wr fun e w' => e = .returned (.bool true) /\ RunMid n w w' gp := by
 obtain ⟨B, C, h1, h2, h3, h4, h5⟩ := h
 refine (looks_k gp B C k wr h1.at (h2.psm h3) h3.rsm (h2.same h3) hk).mono ?_
 rintro e w' ⟨rfl, hb⟩
 have hz := hb.size
 exact ⟨rfl, B, C, (h1.below hb).mono (fun b hb => ⟨hb.1, by have := hb.2; omega⟩) (fun b hb => hb.2), h2, h3, h4.trans (hb.mono h5), by omega⟩
set_option maxHeartbeats 1000000 in
theorem played_k (s : ByteArray) (ao : Option Addr) (len cap : Nat) (zs : List ByteArray) (k : Int) (w : World) (hF : FrsIn w ao len zs) (hk : k = 1 \/ k = 2 \/ k = 3 \/ k = 4) :
  Calls Tryz.prog 12 #[.string s, .slice ao len cap, .int .i64 k] w fun e w' => e = .returned (.bool true) /\ Below w.heap.size w w' := by
 have H1 := hide (made_in s w)
 have HLO := hide (fun h => (layOK_of s h).1)
 have HCY := hide (fun (wz : World) (gp : Nat) (hz : RunMid w.heap.size w wz gp) (t : ByteArray) => hz.cyc t k hk)
 have HLK := hide (fun (wz : World) (gp : Nat) (hz : RunMid w.heap.size w wz gp) => hz.looks k hk)
 generalize layOf s.data.toList = L at *
 generalize (errOf s.data.toList).1 = E at *
 obtain ⟨hlm, hF⟩ := hF
 unfold maxLen at hlm
 have HFR := hide hF
 clear hF hk
 go_enter Tryz.func12, Tryz.ntmps12
 go_wp2_with fail
 refine (uh H1).mono ?_
 rintro e w1 ⟨hcase, hb1⟩
 have HB1 := hide hb1
 clear hb1
 rcases hcase with ⟨-, rfl⟩ | ⟨h0, gp, rfl, hP⟩
 . go_wp2
  go_ret
  exact ⟨rfl, uh HB1⟩
 . have hM1 : RunMid w.heap.size w w1 gp := ⟨_, _, hP, init_sim, init_inv (uh HLO h0), uh HB1, (uh HB1).size⟩
  have HK1 := hide (uh HLK w1 gp hM1)
  clear hP h0 hM1
  go_wp2_with fail
  refine (uh HK1).mono ?_
  rintro e w2 ⟨rfl, hM2⟩
  have HM2 := hide hM2
  clear hM2 HK1
  go_wp2
  go_loopw [8, 9] (fun d i wr => ∃ m : Nat, d = .bool true /\ i = .int .i64 m /\ m <= len /\ RunMid w.heap.size w wr gp) (fun _ i _ => len - (intOf i).toNat)
  case atStart => exact ⟨0, rfl, rfl, Nat.zero_le _, uh HM2⟩
  case round =>
   obtain ⟨m, rfl, rfl, hm, hMr⟩ := hrel
   have HMR := hide hMr
   by_cases hlt : m < len
   . rcases uh HFR with h | ⟨g, off, rfl, hc⟩
    . omega
    have hcm0 := hc m hlt
    have hbk : g < w.heap.size := by
     rcases Nat.lt_or_ge g w.heap.size with h | h
     . exact h
     . unfold World.cell? at hcm0
      simp [Array.getElem?_eq_none h] at hcm0
    have hcm : wr.cell? ⟨g, off + m, none⟩ = some (.string (zs.getD m ByteArray.empty)) := by
     obtain ⟨-, -, -, -, -, hb, -⟩ := hMr
     rw [hb.cell (p := ⟨g, off + m, none⟩) hbk]
     exact hcm0
    have hCY := hide (uh HCY wr gp hMr (zs.getD m ByteArray.empty))
    generalize zs.getD m ByteArray.empty = t at *
    have l0 : (0 : Int) <= m := by omega
    have l1 : (m : Int) < len := by omega
    have hgw : g < wr.heap.size := by obtain ⟨-, -, -, -, -, hb, hz⟩ := hMr; omega
    clear hc hcm0 hMr HMR HM2
    go_wp2_with fail
    refine (uh hCY).mono ?_
    rintro e w3 ⟨rfl, hM3⟩
    have hLK := hide (uh HLK w3 gp hM3)
    clear hM3 hCY hcm
    go_wp2_with fail
    refine (uh hLK).mono ?_
    rintro e w4 ⟨rfl, hM4⟩
    have HM4 := hide hM4
    clear hM4 hLK
    go_wp2
    exact ⟨⟨m + 1, rfl, by go_num, by omega, uh HM4⟩, by simp [intOf]; omega⟩
   . have l1 : ¬ (m : Int) < len := by omega
    clear hMr HM2
    go_wp2
    go_ret
    refine ⟨rfl, ?_⟩
    obtain ⟨-, -, -, -, -, hb, -⟩ := uh HMR
    exact hb
theorem Answers_any (s : ByteArray) (ao : Option Addr) (len cap : Nat) (zs : List ByteArray) (w : World) (hF : FrsIn w ao len zs) :
  Calls Tryz.prog 4 #[.string s, .slice ao len cap] w fun e w' => e = .returned (.bool true) /\ Below w.heap.size w w' := by
 have H1 := hide (played_k s ao len cap zs 1 w hF (by decide))
 clear hF
 go_enter Tryz.func4, Tryz.ntmps4
 go_wp2_with fail
 refine (uh H1).mono ?_
 rintro e w1 ⟨rfl, hb1⟩
 have HB1 := hide hb1
 clear hb1
 go_wp2
 go_ret
 exact ⟨rfl, uh HB1⟩
theorem Locked_any (s : ByteArray) (ao : Option Addr) (len cap : Nat) (zs : List ByteArray) (w : World) (hF : FrsIn w ao len zs) :
  Calls Tryz.prog 5 #[.string s, .slice ao len cap] w fun e w' => e = .returned (.bool true) /\ Below w.heap.size w w' := by
 have H1 := hide (played_k s ao len cap zs 2 w hF (by decide))
 clear hF
 go_enter Tryz.func5, Tryz.ntmps5
 go_wp2_with fail
 refine (uh H1).mono ?_
 rintro e w1 ⟨rfl, hb1⟩
 have HB1 := hide hb1
 clear hb1
 go_wp2
 go_ret
 exact ⟨rfl, uh HB1⟩
theorem Lying_any (s : ByteArray) (ao : Option Addr) (len cap : Nat) (zs : List ByteArray) (w : World) (hF : FrsIn w ao len zs) :
  Calls Tryz.prog 6 #[.string s, .slice ao len cap] w fun e w' => e = .returned (.bool true) /\ Below w.heap.size w w' := by
 have H1 := hide (played_k s ao len cap zs 3 w hF (by decide))
 clear hF
 go_enter Tryz.func6, Tryz.ntmps6
 go_wp2_with fail
 refine (uh H1).mono ?_
 rintro e w1 ⟨rfl, hb1⟩
 have HB1 := hide hb1
 clear hb1
 go_wp2
 go_ret
 exact ⟨rfl, uh HB1⟩
theorem Queued_any (s : ByteArray) (ao : Option Addr) (len cap : Nat) (zs : List ByteArray) (w : World) (hF : FrsIn w ao len zs) :
  Calls Tryz.prog 7 #[.string s, .slice ao len cap] w fun e w' => e = .returned (.bool true) /\ Below w.heap.size w w' := by
 have H1 := hide (played_k s ao len cap zs 4 w hF (by decide))
 clear hF
 go_enter Tryz.func7, Tryz.ntmps7
 go_wp2_with fail
 refine (uh H1).mono ?_
 rintro e w1 ⟨rfl, hb1⟩
 have HB1 := hide hb1
 clear hb1
 go_wp2
 go_ret
 exact ⟨rfl, uh HB1⟩
end Go.Proofs.YtkbpocecbcaiiaaGreatDoor
