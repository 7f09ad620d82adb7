import Derived.Test.YtkbpocecbcaiiaaGreatDoorJ49
namespace Go.Proofs.YtkbpocecbcaiiaaGreatDoor
open Go.RowKit
theorem Tryz.infoPair : (Tryz.prog.info? 35).map (fun i => (i.zero, i.size, i.bytes)) = some (some (.pointer none), 1, 8) := by kernel_rfl
theorem Tryz.infoAsked : (Tryz.prog.info? 116).map (fun i => (i.zero, i.size, i.bytes)) = some (some (.agg #[.string ByteArray.empty, .string ByteArray.empty, .string ByteArray.empty]), 3, 48) := by kernel_rfl
def ptrV (g : Nat) : Value := .pointer (some ⟨g, 0, none⟩)
def askV (x : ByteArray × ByteArray × ByteArray) : List Value := [.string x.1, .string x.2.1, .string x.2.2]
def asksV (l : List (ByteArray × ByteArray × ByteArray)) : List Value := (l.map askV).flatten
theorem asksV_snoc (l : List (ByteArray × ByteArray × ByteArray)) (a b c : ByteArray) : asksV (l ++ [(a, b, c)]) = asksV l ++ [.string a, .string b, .string c] := by simp [asksV, askV]
structure WOK (n : Nat) (w : World) (gw : Nat) (vb vo : Value) (gps : List Nat) (os : List (ByteArray × ByteArray × ByteArray)) (E : Nat -> Nat -> Prop) : Prop where
 nw : n <= w.heap.size
 ng : n <= gw
 cell : w.heap[gw]? = some (.cells #[vb, vo] 31 (0, 0))
 boxes : w.ownsRow n 35 1 vb gps.length (gps.map ptrV)
 asked : w.ownsRow n 116 3 vo os.length (asksV os)
 told : ∀ x, x ∈ os -> x.2.2 = (ansOf x.1 x.2.1).1
 pair : ∀ i (h : i < gps.length), ∃ B C, PairIn w (E i) gps[i] B C /\ Sim B C /\ Inv C
 far : ∀ i, i < gps.length -> ∀ b, E i b -> n <= b /\ b ≠ gw /\ vb.ownBlock ≠ some b /\ vo.ownBlock ≠ some b
 apart : ∀ i j, i < gps.length -> j < gps.length -> i ≠ j -> ∀ b, E i b -> ¬ E j b
theorem WOK.lt {n : Nat} {w : World} {gw : Nat} {vb vo : Value} {gps : List Nat} {os : List (ByteArray × ByteArray × ByteArray)} {E : Nat -> Nat -> Prop} (h : WOK n w gw vb vo gps os E) {i : Nat} (hi : i < gps.length) {b : Nat} (hb : E i b) : b < w.heap.size := by
 obtain ⟨B, C, hP, -⟩ := h.pair i hi
 obtain ⟨-, -, -, -, -, -, -, -, -, -, -, -, -, hz⟩ := hP
 exact hz b hb
theorem WOK.below {n : Nat} {w w' : World} {gw : Nat} {vb vo : Value} {gps : List Nat} {os : List (ByteArray × ByteArray × ByteArray)} {E : Nat -> Nat -> Prop} (h : WOK n w gw vb vo gps os E) (hb : Below w.heap.size w w') : WOK n w' gw vb vo gps os E :=
 ⟨Nat.le_trans h.nw hb.size, h.ng, (hb.block gw (z0f h.cell)).trans h.cell, z0e h.boxes hb, z0e h.asked hb, h.told, fun i hi => by
  obtain ⟨B, C, hP, r⟩ := h.pair i hi
  exact ⟨B, C, hP.below hb, r⟩, h.far, h.apart⟩
theorem WOK.cyc {n : Nat} {w w' : World} {gw : Nat} {vb vo : Value} {gps : List Nat} {os : List (ByteArray × ByteArray × ByteArray)} {E : Nat -> Nat -> Prop} (h : WOK n w gw vb vo gps os E) {i : Nat} (hi : i < gps.length) {B : PBx} {C : RBx}
  (hP : PairIn w' (grow (E i) w w') gps[i] B C) (hs : Sim B C) (hv : Inv C) (ho : Only (E i) w w') : WOK n w' gw vb vo gps os (fun j => if j = i then grow (E i) w w' else E j) := by
 have hz := ho.size
 have hg := z0f h.cell
 refine ⟨Nat.le_trans h.nw hz, h.ng, (ho.block gw hg (fun hb => (h.far i hi gw hb).2.1 rfl)).trans h.cell, z3t h.boxes ho (fun k hk hb => (h.far i hi k hb).2.2.1 hk), z3t h.asked ho (fun k hk hb => (h.far i hi k hb).2.2.2 hk), h.told, fun j hj => ?_, fun j hj b hb => ?_, fun j k hj hk hjk b hb hc => ?_⟩
 ·by_cases e : j = i
  ·subst e
   simp only [if_true]
   exact ⟨B, C, hP, hs, hv⟩
  ·simp only [if_neg e]
   obtain ⟨B', C', hP', r⟩ := h.pair j hj
   exact ⟨B', C', hP'.only ho (fun b hb hc => h.apart j i hj hi e b hb hc), r⟩
 ·by_cases e : j = i
  ·subst e
   simp only [if_true] at hb
   rcases hb with hb | hb
   ·exact h.far j hj b hb
   ·refine ⟨Nat.le_trans h.nw hb.1, by omega, fun hx => ?_, fun hx => ?_⟩
    ·have := (h.boxes.lt b hx).2; omega
    ·have := (h.asked.lt b hx).2; omega
  ·simp only [if_neg e] at hb
   exact h.far j hj b hb
 ·by_cases e : j = i <;> by_cases e' : k = i
  ·omega
  ·subst e
   simp only [if_true] at hb
   simp only [if_neg e'] at hc
   rcases hb with hb | hb
   ·exact h.apart j k hj hk hjk b hb hc
   ·have := h.lt hk hc; omega
  ·subst e'
   simp only [if_true] at hc
   simp only [if_neg e] at hb
   rcases hc with hc | hc
   ·exact h.apart j k hj hk hjk b hb hc
   ·have := h.lt hj hb; omega
  ·simp only [if_neg e] at hb
   simp only [if_neg e'] at hc
   exact h.apart j k hj hk hjk b hb hc
theorem only_gw (w : World) (gw j : Nat) (u : Value) : Only (fun b => b = gw) w (w.setCell ⟨gw, j, none⟩ u) := Only.setCell (F := fun b => b = gw) (a := ⟨gw, j, none⟩) rfl u
theorem WOK.addB {n : Nat} {w w2 : World} {gw : Nat} {vb vo : Value} {gps : List Nat} {os : List (ByteArray × ByteArray × ByteArray)} {E : Nat -> Nat -> Prop} (h : WOK n w gw vb vo gps os E) {F : Nat -> Prop} {gp : Nat} {B : PBx} {C : RBx}
  (hP : PairIn w F gp B C) (hs : Sim B C) (hv : Inv C) (hF : ∀ b, F b -> n <= b /\ b ≠ gw /\ vb.ownBlock ≠ some b /\ vo.ownBlock ≠ some b /\ ∀ i, i < gps.length -> ¬ E i b) {o : Obj} {g cap : Nat}
  (hown : w2.ownsRow n 35 1 (.slice (some ⟨g, 0, none⟩) (gps.length + 1) cap) (gps.length + 1) (gps.map ptrV ++ [ptrV gp])) (hg : (w.alloc o).grownBy w2 vb.ownBlock) (hat : vb.ownBlock = some g \/ g = w.heap.size + 1) :
  WOK n (w2.setCell ⟨gw, 0, none⟩ (.slice (some ⟨g, 0, none⟩) (gps.length + 1) cap)) gw (.slice (some ⟨g, 0, none⟩) (gps.length + 1) cap) vo (gps ++ [gp]) os (fun j => if j = gps.length then F else E j) := by
 have ho := z1e hg
 have ho2 := only_gw w2 gw 0 (.slice (some ⟨g, 0, none⟩) (gps.length + 1) cap)
 have hz := ho.size
 have hcl : w2.heap[gw]? = some (.cells #[vb, vo] 31 (0, 0)) := (ho.block gw (z0f h.cell) (fun e => by
  obtain ⟨c, f, hh⟩ := z0g h.boxes e
  have := h.cell.symm.trans hh
  simp at this)).trans h.cell
 have hTy : Typed w2 gw 31 := ⟨_, _, hcl⟩
 have hne : ∀ b, vo.ownBlock = some b -> vb.ownBlock ≠ some b := by
  intro b hb hc
  obtain ⟨c, f, h1⟩ := z0g h.boxes hc
  obtain ⟨c', f', h2⟩ := z0g h.asked hb
  have := h1.symm.trans h2
  simp at this
 have hPz : ∀ b, F b -> b < w.heap.size := by
  obtain ⟨-, -, -, -, -, -, -, -, -, -, -, -, -, hz⟩ := hP
  exact hz
 have keep : ∀ {E' : Nat -> Prop} {gp' : Nat} {B' : PBx} {C' : RBx}, PairIn w E' gp' B' C' -> (∀ b, E' b -> b ≠ gw /\ vb.ownBlock ≠ some b) -> PairIn (w2.setCell ⟨gw, 0, none⟩ (.slice (some ⟨g, 0, none⟩) (gps.length + 1) cap)) E' gp' B' C' :=
  fun hp hx => (hp.only ho (fun b hb => (hx b hb).2)).only ho2 (fun b hb => (hx b hb).1)
 have hlen : (gps ++ [gp]).length = gps.length + 1 := by simp
 refine ⟨by have := ho2.size; have := h.nw; omega, h.ng, z08 _ hcl, ?_, ?_, h.told, fun i hi => ?_, fun i hi b hb => ?_, fun i j hi hj hij b hb hc => ?_⟩
 ·rw [hlen, List.map_append]
  exact z01 hown (Keeps.setCell _ _ hTy (by decide))
 ·exact z01 (z3t h.asked ho hne) (Keeps.setCell _ _ hTy (by decide))
 ·by_cases e : i = gps.length
  ·subst e
   simp only [if_true]
   have : (gps ++ [gp])[gps.length] = gp := by simp
   rw [this]
   exact ⟨B, C, keep hP (fun b hb => ⟨(hF b hb).2.1, (hF b hb).2.2.1⟩), hs, hv⟩
  ·have hi' : i < gps.length := by rw [hlen] at hi; omega
   simp only [if_neg e]
   have : (gps ++ [gp])[i] = gps[i] := List.getElem_append_left hi'
   rw [this]
   obtain ⟨B', C', hP', r⟩ := h.pair i hi'
   exact ⟨B', C', keep hP' (fun b hb => ⟨(h.far i hi' b hb).2.1, (h.far i hi' b hb).2.2.1⟩), r⟩
 ·have hnew : ∀ b, b < w.heap.size -> vb.ownBlock ≠ some b -> (Value.slice (some ⟨g, 0, none⟩) (gps.length + 1) cap).ownBlock ≠ some b := by
   intro b hb hx hy
   simp only [Value.ownBlock, Option.some.injEq] at hy
   subst hy
   rcases hat with hat | hat
   ·exact hx hat
   ·omega
  by_cases e : i = gps.length
  ·subst e
   simp only [if_true] at hb
   exact ⟨(hF b hb).1, (hF b hb).2.1, hnew b (hPz b hb) (hF b hb).2.2.1, (hF b hb).2.2.2.1⟩
  ·have hi' : i < gps.length := by rw [hlen] at hi; omega
   simp only [if_neg e] at hb
   obtain ⟨f1, f2, f3, f4⟩ := h.far i hi' b hb
   exact ⟨f1, f2, hnew b (h.lt hi' hb) f3, f4⟩
 ·by_cases e : i = gps.length <;> by_cases e' : j = gps.length
  ·omega
  ·have hj' : j < gps.length := by rw [hlen] at hj; omega
   subst e
   simp only [if_true] at hb
   simp only [if_neg e'] at hc
   exact (hF b hb).2.2.2.2 j hj' hc
  ·have hi' : i < gps.length := by rw [hlen] at hi; omega
   subst e'
   simp only [if_true] at hc
   simp only [if_neg e] at hb
   exact (hF b hc).2.2.2.2 i hi' hb
  ·have hi' : i < gps.length := by rw [hlen] at hi; omega
   have hj' : j < gps.length := by rw [hlen] at hj; omega
   simp only [if_neg e] at hb
   simp only [if_neg e'] at hc
   exact h.apart i j hi' hj' hij b hb hc
theorem WOK.addO {n : Nat} {w w2 : World} {gw : Nat} {vb vo : Value} {gps : List Nat} {os : List (ByteArray × ByteArray × ByteArray)} {E : Nat -> Nat -> Prop} (h : WOK n w gw vb vo gps os E) {s a : ByteArray} {o : Obj} {g cap : Nat}
  (hown : w2.ownsRow n 116 3 (.slice (some ⟨g, 0, none⟩) (os.length + 1) cap) (os.length + 1) (asksV os ++ [.string s, .string a, .string (ansOf s a).1])) (hg : (w.alloc o).grownBy w2 vo.ownBlock) (hat : vo.ownBlock = some g \/ w.heap.size <= g) :
  WOK n (w2.setCell ⟨gw, 1, none⟩ (.slice (some ⟨g, 0, none⟩) (os.length + 1) cap)) gw vb (.slice (some ⟨g, 0, none⟩) (os.length + 1) cap) gps (os ++ [(s, a, (ansOf s a).1)]) E := by
 have ho := z1e hg
 have ho2 := only_gw w2 gw 1 (.slice (some ⟨g, 0, none⟩) (os.length + 1) cap)
 have hz := ho.size
 have hcl : w2.heap[gw]? = some (.cells #[vb, vo] 31 (0, 0)) := (ho.block gw (z0f h.cell) (fun e => by
  obtain ⟨c, f, hh⟩ := z0g h.asked e
  have := h.cell.symm.trans hh
  simp at this)).trans h.cell
 have hTy : Typed w2 gw 31 := ⟨_, _, hcl⟩
 have hne : ∀ b, vb.ownBlock = some b -> vo.ownBlock ≠ some b := by
  intro b hc hb
  obtain ⟨c, f, h1⟩ := z0g h.boxes hc
  obtain ⟨c', f', h2⟩ := z0g h.asked hb
  have := h1.symm.trans h2
  simp at this
 have hlen : (os ++ [(s, a, (ansOf s a).1)]).length = os.length + 1 := by simp
 refine ⟨by have := ho2.size; have := h.nw; omega, h.ng, z08 _ hcl, ?_, ?_, ?_, fun i hi => ?_, fun i hi b hb => ?_, h.apart⟩
 ·exact z01 (z3t h.boxes ho hne) (Keeps.setCell _ _ hTy (by decide))
 ·rw [hlen, asksV_snoc]
  exact z01 hown (Keeps.setCell _ _ hTy (by decide))
 ·intro x hx
  rcases List.mem_append.1 hx with hx | hx
  ·exact h.told x hx
  ·rw [List.mem_singleton] at hx
   subst hx
   rfl
 ·obtain ⟨B', C', hP', r⟩ := h.pair i hi
  exact ⟨B', C', (hP'.only ho (fun b hb => (h.far i hi b hb).2.2.2)).only ho2 (fun b hb => (h.far i hi b hb).2.1), r⟩
 ·obtain ⟨f1, f2, f3, f4⟩ := h.far i hi b hb
  refine ⟨f1, f2, f3, fun hy => ?_⟩
  simp only [Value.ownBlock, Option.some.injEq] at hy
  subst hy
  rcases hat with hat | hat
  ·exact f4 hat
  ·have := h.lt hi hb; omega
def WMid (n : Nat) (w0 w : World) (gw m : Nat) : Prop := ∃ vb vo gps os E, WOK n w gw vb vo gps os E /\ Below n w0 w /\ gps.length <= m /\ os.length <= m
theorem WMid.below {n : Nat} {w0 w w' : World} {gw m : Nat} (h : WMid n w0 w gw m) (hb : Below w.heap.size w w') : WMid n w0 w' gw m := by
 obtain ⟨vb, vo, gps, os, E, a, b, c⟩ := h
 exact ⟨vb, vo, gps, os, E, a.below hb, b.trans (hb.mono a.nw), c⟩
theorem WMid.mono {n : Nat} {w0 w : World} {gw m m' : Nat} (h : WMid n w0 w gw m) (hm : m <= m') : WMid n w0 w gw m' := by
 obtain ⟨vb, vo, gps, os, E, a, b, c, d⟩ := h
 exact ⟨vb, vo, gps, os, E, a, b, by omega, by omega⟩
theorem Only.belowN {F : Nat -> Prop} {w w' : World} {n : Nat} (h : Only F w w') (hF : ∀ b, F b -> n <= b) (hn : n <= w.heap.size) : Below n w w' :=
 ⟨h.os, h.tape, h.output, h.size, fun k hk => h.block k (by omega) (fun hf => by have := hF k hf; omega)⟩
theorem str_neL {a b : ByteArray} (h : ¬ a = b) : ¬ a.toList = b.toList := by
 rw [ByteArray.toList_eq, ByteArray.toList_eq]
 intro e
 apply h
 obtain ⟨⟨x⟩⟩ := a
 obtain ⟨⟨y⟩⟩ := b
 have e' : x = y := e
 rw [e']
theorem str_ne {a b : ByteArray} (h : ¬ a = b) : (a.toList == b.toList) = false := by
 have := str_neL h
 simpa using this
theorem all2_ask {w : World} : ∀ (l : List (ByteArray × ByteArray × ByteArray)), All2 (fun (x : ByteArray × ByteArray × ByteArray) cs => cs = askV x) l (l.map askV)
 | [] => trivial
 | _ :: l => ⟨rfl, all2_ask (w := w) l⟩
theorem asks_open {n : Nat} {w : World} {v : Value} {os : List (ByteArray × ByteArray × ByteArray)} (h : w.ownsRow n 116 3 v os.length (asksV os)) :
  ∃ ao cap, v = .slice ao os.length cap /\ ∀ i (_ : i < os.length), ∃ g off, ao = some ⟨g, off, none⟩ /\ g < w.heap.size /\ w.cell? ⟨g, off + i * 3, none⟩ = some (.string os[i].1) /\ w.cell? ⟨g, off + i * 3 + 1, none⟩ = some (.string os[i].2.1) /\ w.cell? ⟨g, off + i * 3 + 2, none⟩ = some (.string os[i].2.2) := by
 have hs : SlAt 116 3 (fun _ (x : ByteArray × ByteArray × ByteArray) cs => cs = askV x) w v os := SlAt.ofOwnN (css := os.map askV) h (all2_ask (w := w) os) (fun c hc => by
  obtain ⟨x, -, rfl⟩ := List.mem_map.1 hc
  rfl) rfl
 obtain ⟨ao, cap, hv, -, -, hr⟩ := SlAt.open hs
 refine ⟨ao, cap, hv, fun i hi => ?_⟩
 obtain ⟨g, off, ha, hg, cs, -, hC, hc⟩ := hr i hi
 have hC' : cs = askV os[i] := hC
 subst hC'
 exact ⟨g, off, ha, hg, hc 0 (by omega), hc 1 (by omega), hc 2 (by omega)⟩
set_option maxRecDepth 100000 in
set_option maxHeartbeats 4000000 in
theorem order_w (n : Nat) (w0 : World) (gw m : Nat) (s a : ByteArray) (w : World) (h : WMid n w0 w gw m) (hm : (m + 1) * 48 <= 140737488355328) :
  Calls Tryz.prog 27 #[.pointer (some ⟨gw, 0, none⟩), .string s, .string a] w fun e w' => e = .returned (.bool true) /\ WMid n w0 w' gw (m + 1) := by
 have H1 := zh (lOrder_any s a w (z38 s) (trains_small s a))
 have H2 := zh (fun (w : World) => ans_right s a w)
 have HM := zh h
 obtain ⟨x, hx⟩ : ∃ x, x = (ansOf s a).1 := ⟨_, rfl⟩
 have HX := zh hx
 rw [<- hx] at H1 H2
 generalize (ansOf s a).2 = y at *
 clear h hx
 go_enter Tryz.func27, Tryz.ntmps27
 go_wp2_with fail
 refine (uh H1).mono ?_
 rintro e w1 ⟨rfl, hb1⟩
 have HM1 := zh ((uh HM).below hb1)
 clear hb1
 go_wp2_with fail
 refine (num_any _ _).mono ?_
 rintro e w9 ⟨rfl, rfl⟩
 go_wp2_with fail
 refine (uh H2 _).mono ?_
 rintro e w2 ⟨rfl, hb2⟩
 have HM2 := zh ((uh HM1).below hb2)
 clear hb2
 obtain ⟨vb, vo, gps, os, E, hW, hB, hl1, hl2⟩ := uh HM2
 obtain ⟨ao, cap, rfl, hrow⟩ := asks_open hW.asked
 have HW := zh (And.intro hW (And.intro hB (And.intro hl1 hl2)))
 have HT := zh hW.told
 have HRW := zh hrow
 have q2 := (duo0 hW.cell).2.2
 obtain ⟨nl, hnl⟩ : ∃ nl, nl = os.length := ⟨_, rfl⟩
 have HNL := zh hnl
 rw [<- hnl] at hl2 HW
 obtain ⟨i0, hi0⟩ := info_parts Tryz.infoAsked
 have HI := zh hi0
 clear hi0 hW hB hl1 hrow hnl HM HM1 HM2 H1 H2
 go_wp2
 go_loopw [10] (fun i wr => ∃ k : Nat, i = .int .i64 k /\ k <= nl /\ Below w2.heap.size w2 wr) (fun i _ => nl - (intOf i).toNat)
 case atStart => exact ⟨0, rfl, Nat.zero_le _, Below.refl _ _⟩
 case round =>
  obtain ⟨k, rfl, hk, hbr⟩ := hrel
  have HBR := zh hbr
  have hcell := (hbr.block gw q2).trans (uh HW).1.cell
  obtain ⟨⟨c0, c1⟩, ⟨f0, f1⟩, q⟩ := duo0 hcell
  have HC := zh hcell
  clear hcell
  have hz := hbr.size
  by_cases hlt : k < nl
  ·have hlt' : k < os.length := by rw [<- uh HNL]; exact hlt
   obtain ⟨g, off, rfl, hg, d0, d1, d2⟩ := uh HRW k hlt'
   have e0 := (hbr.cell (p := ⟨g, off + k * 3, none⟩) hg).trans d0
   have e1 := (hbr.cell (p := ⟨g, off + k * 3 + 1, none⟩) hg).trans d1
   have e2 := (hbr.cell (p := ⟨g, off + k * 3 + 2, none⟩) hg).trans d2
   have hgr : g < wr.heap.size := by omega
   have hxx : os[k].1 = s -> os[k].2.1 = a -> os[k].2.2 = x := fun h1 h2 => by
    rw [uh HT _ (List.getElem_mem hlt'), h1, h2, uh HX]
   have HXX := zh hxx
   have l0 : (0 : Int) <= k := by omega
   have l1 : (k : Int) < nl := by omega
   generalize os[k].1 = u1 at *
   generalize os[k].2.1 = u2 at *
   generalize os[k].2.2 = u3 at *
   have HBR2 := zh (show ∀ o : Obj, Below w2.heap.size w2 (wr.alloc o) from fun o => (uh HBR).alloc hz o)
   clear d0 d1 d2 hxx hbr hg
   by_cases e3 : u1 = s
   ·by_cases e4 : u2 = a
    ·have e5 := uh HXX e3 e4
     subst e3 e4 e5
     go_wp2
     exact ⟨⟨k + 1, by go_num, by omega, uh HBR2 _⟩, by simp [intOf]; omega⟩
    ·have b4 := str_ne e4
     have b5 := str_neL e4
     subst e3
     go_wp2
     exact ⟨⟨k + 1, by go_num, by omega, uh HBR2 _⟩, by simp [intOf]; omega⟩
   ·have b4 := str_ne e3
    have b5 := str_neL e3
    go_wp2
    exact ⟨⟨k + 1, by go_num, by omega, uh HBR2 _⟩, by simp [intOf]; omega⟩
  ·have l1 : ¬ (k : Int) < nl := by omega
   have hWr := (uh HW).1.below hbr
   have HWR := zh hWr
   have HAS := zh (show wr.ownsRow n 116 3 (.slice ao nl cap) nl (asksV os) by have := hWr.asked; rw [<- uh HNL] at this; exact this)
   have hnw : n <= wr.heap.size := hWr.nw
   have HBW := zh ((uh HW).2.1.trans (hbr.mono (uh HW).1.nw))
   clear hWr hbr HC
   go_wp2_with (at_builtin; refine wpList_append_lies _ rfl _ _ 29 rfl n 116 i0 (.agg #[.string ByteArray.empty, .string ByteArray.empty, .string ByteArray.empty]) 3 48 Tryz.underlying29 (uh HI).1 (uh HI).2.1 (uh HI).2.2.1 (uh HI).2.2.2 rfl (by decide) (.slice ao nl cap) nl (asksV os) rfl (World.ownsRow.alloc (uh HAS) _) ⟨wr.heap.size, 0, none⟩ 1 1 [.string s, .string a, .string x] rfl rfl (z3n _ [.string s, .string a, .string x] _) (by simp [Value.oneCell']) (by decide) (by unfold maxLen; omega) (by omega) (by simp; omega) _ rfl ?_; intro g4 c4 w4 hown4 hgrow4 hat4 hlt4; have hcl4 := ((z1e hgrow4).block gw (z0f (uh HWR).cell) (fun e => by obtain ⟨c, f, hh⟩ := z0g (uh HAS) e; have := (uh HWR).cell.symm.trans hh; simp at this)).trans (uh HWR).cell; obtain ⟨⟨r0, r1⟩, ⟨z0, z1⟩, q4⟩ := duo0 hcl4)
   go_ret
   refine ⟨rfl, ?_⟩
   have e1 := uh HNL
   have e2 := uh HX
   subst e1
   subst e2
   have hA := (uh HWR).addO hown4 hgrow4 (hat4.imp (fun e => e) (fun e => by rw [e]; simp))
   refine ⟨_, _, _, _, _, hA, ?_, by have := (uh HW).2.2.1; omega, by simp; exact (uh HW).2.2.2⟩
   have hB4 := (uh HBW).trans ((z1e hgrow4).belowN (fun b hb => ((uh HAS).lt b hb).1) hnw)
   exact hB4.setCell (p := ⟨gw, 1, none⟩) (uh HWR).ng _
theorem ptrs_open {n : Nat} {w : World} {v : Value} {gps : List Nat} (h : w.ownsRow n 35 1 v gps.length (gps.map ptrV)) :
  ∃ ao cap, v = .slice ao gps.length cap /\ gps.length <= maxLen /\ ∀ i (_ : i < gps.length), ∃ g, ao = some ⟨g, 0, none⟩ /\ g < w.heap.size /\ w.cell? ⟨g, i, none⟩ = some (ptrV gps[i]) := by
 obtain ⟨ao, cap, rfl⟩ := z03 h
 have hm : gps.length <= maxLen := by
  rcases h.2 with ⟨-, e⟩ | ⟨g, c, cur, -, -, -, h1, h2, -⟩
  ·rw [e]; exact Nat.zero_le _
  ·omega
 refine ⟨ao, cap, rfl, hm, fun i hi => ?_⟩
 obtain ⟨g, c, e, -, hg⟩ := h.form (by omega)
 simp only [Value.slice.injEq] at e
 obtain ⟨rfl, -, rfl⟩ := e
 refine ⟨g, rfl, hg, ?_⟩
 rw [h.cellAt i (by omega)]
 rw [List.getElem?_map, List.getElem?_eq_getElem hi]; rfl
theorem WMid.cycle {n : Nat} {w0 w : World} {gw m : Nat} {vb vo : Value} {gps : List Nat} {os : List (ByteArray × ByteArray × ByteArray)} {E : Nat -> Nat -> Prop} (h : WOK n w gw vb vo gps os E) (hB : Below n w0 w) (h1 : gps.length <= m) (h2 : os.length <= m) {i : Nat} (hi : i < gps.length) (s : ByteArray) :
  Calls Tryz.prog 24 #[ptrV gps[i], .string s, .int .i64 1] w fun e w' => e = .returned (.bool true) /\ WMid n w0 w' gw m := by
 obtain ⟨B, C, hP, hs, hv⟩ := h.pair i hi
 refine (cycle_pair (E i) gps[i] B C s 1 w hP hs hv (.inl rfl)).mono ?_
 rintro e w' ⟨rfl, hP', ho⟩
 obtain ⟨-, -, c, d, -⟩ := hs.cyc hv s
 refine ⟨rfl, vb, vo, gps, os, _, h.cyc hi hP' c d ho, hB.trans (ho.belowN (fun b hb => (h.far i hi b hb).1) h.nw), h1, h2⟩
theorem WMid.tells {n : Nat} {w0 w : World} {gw m : Nat} {vb vo : Value} {gps : List Nat} {os : List (ByteArray × ByteArray × ByteArray)} {E : Nat -> Nat -> Prop} (h : WOK n w gw vb vo gps os E) (hM : WMid n w0 w gw m) {i : Nat} (hi : i < gps.length) (k : Int) :
  Calls Tryz.prog 29 #[ptrV gps[i], .int .i64 k] w fun e w' => e = .returned (.bool true) /\ WMid n w0 w' gw m := by
 obtain ⟨B, C, hP, hs, hv⟩ := h.pair i hi
 refine (tells_k gps[i] B C k w hP.at (hs.psm hv) hv.rsm (hs.same hv)).mono ?_
 rintro e w' ⟨rfl, hb⟩
 exact ⟨rfl, hM.below hb⟩
theorem WMid.looks {n : Nat} {w : World} {gw : Nat} {vb vo : Value} {gps : List Nat} {os : List (ByteArray × ByteArray × ByteArray)} {E : Nat -> Nat -> Prop} (h : WOK n w gw vb vo gps os E) {i : Nat} (hi : i < gps.length) :
  Calls Tryz.prog 14 #[ptrV gps[i], .int .i64 5] w fun e w' => e = .returned (.bool true) /\ Below w.heap.size w w' := by
 obtain ⟨B, C, hP, hs, hv⟩ := h.pair i hi
 exact looks_whole gps[i] B C w hP.at (hs.psm hv) hv.rsm (hs.same hv)
def opV (k b : Int) (s t : ByteArray) : Value := .agg #[.int .i64 k, .int .i64 b, .string s, .string t]
set_option maxRecDepth 100000 in
set_option maxHeartbeats 8000000 in
theorem step_w (n : Nat) (w0 : World) (gw m : Nat) (k b : Int) (s t : ByteArray) (w : World) (h : WMid n w0 w gw m) (hm : (m + 1) * 48 <= 140737488355328) (hb : -9223372036854775808 <= b /\ b < 9223372036854775808) :
  Calls Tryz.prog 13 #[.pointer (some ⟨gw, 0, none⟩), opV k b s t] w fun e w' => e = .returned (.bool true) /\ WMid n w0 w' gw (m + 1) := by
 have HM := zh h
 unfold opV
 have hba : ∀ cs : Array Value, Below w.heap.size w (w.alloc (.cells cs 34)) := fun cs => z02 w _
 have HM1 := zh (h.below (hba #[.int .i64 k, .int .i64 b, .string s, .string t]))
 obtain ⟨W, hW⟩ : ∃ W, W = w.alloc (.cells #[.int .i64 k, .int .i64 b, .string s, .string t] 34) := ⟨_, rfl⟩
 by_cases k1 : k = 1
 ·subst k1
  have H1 := zh (Checks_any s (w.alloc (.cells #[.int .i64 1, .int .i64 b, .string s, .string t] 34)) form_ok (z38 s) (load_eq s).1 (load_eq s).2)
  clear h hba hW
  go_enter Tryz.func13, Tryz.ntmps13
  go_wp2_with fail
  refine (uh H1).mono ?_
  rintro e w1 ⟨rfl, hb1⟩
  have HM2 := zh (((uh HM1).below hb1).mono (Nat.le_succ m))
  clear hb1
  go_wp2
  go_ret
  exact ⟨rfl, uh HM2⟩
 by_cases k2 : k = 2
 ·subst k2
  have H1 := zh (Safes_any s t (w.alloc (.cells #[.int .i64 2, .int .i64 b, .string s, .string t] 34)) form_ok (z38 s) (ord_eq s t))
  clear h hba hW k1
  go_enter Tryz.func13, Tryz.ntmps13
  go_wp2_with fail
  refine (uh H1).mono ?_
  rintro e w1 ⟨rfl, hb1⟩
  have HM2 := zh (((uh HM1).below hb1).mono (Nat.le_succ m))
  clear hb1
  go_wp2
  go_ret
  exact ⟨rfl, uh HM2⟩
 by_cases k3 : k = 3
 ·subst k3
  have H1 := zh (order_w n w0 gw m s t (w.alloc (.cells #[.int .i64 3, .int .i64 b, .string s, .string t] 34)) (uh HM1) hm)
  clear h hba hW k1 k2
  go_enter Tryz.func13, Tryz.ntmps13
  go_wp2_with fail
  refine (uh H1).mono ?_
  rintro e w1 ⟨rfl, hM2⟩
  have HM2 := zh hM2
  clear hM2
  go_wp2
  go_ret
  exact ⟨rfl, uh HM2⟩
 by_cases k4 : k = 4
 ·subst k4
  obtain ⟨vb, vo, gps, os, E, hWK, hB, hl1, hl2⟩ := uh HM1
  have H1 := zh (made_in s (w.alloc (.cells #[.int .i64 4, .int .i64 b, .string s, .string t] 34)))
  have HLO := zh (fun h => (layOK_of s h).1)
  have HWK := zh hWK
  have HB := zh hB
  clear h hba hW k1 k2 k3 hWK hB
  obtain ⟨i0, hi0⟩ := info_parts Tryz.infoPair
  have HI := zh hi0
  clear hi0
  generalize layOf s.data.toList = L at *
  generalize (errOf s.data.toList).1 = er at *
  go_enter Tryz.func13, Tryz.ntmps13
  go_wp2_with fail
  refine (uh H1).mono ?_
  rintro e w1 ⟨hcase, hb1⟩
  have HW1 := zh ((uh HWK).below hb1)
  have HB1 := zh ((uh HB).trans (hb1.mono (uh HWK).nw))
  have hz1 := hb1.size
  clear hb1
  rcases hcase with ⟨-, rfl⟩ | ⟨h0, gp, rfl, hP⟩
  ·go_wp2
   go_ret
   exact ⟨rfl, vb, vo, gps, os, E, uh HW1, uh HB1, by omega, by omega⟩
  ·have HP := zh hP
   have HL := zh (init_inv (uh HLO h0))
   obtain ⟨ab, cb, rfl⟩ := z03 (uh HWK).boxes
   obtain ⟨⟨c0, c1⟩, ⟨f0, f1⟩, q⟩ := duo0 (uh HW1).cell
   have HBX := zh (uh HW1).boxes
   have hnw : n <= w1.heap.size := (uh HW1).nw
   obtain ⟨np, hnp⟩ : ∃ np, np = gps.length := ⟨_, rfl⟩
   have HNP := zh hnp
   rw [<- hnp] at c0 hl1 HBX
   clear hnp hP h0
   go_wp2_with (at_builtin; refine wpList_append_lies _ rfl _ _ 28 rfl n 35 i0 (.pointer none) 1 8 Tryz.underlying28 (uh HI).1 (uh HI).2.1 (uh HI).2.2.1 (uh HI).2.2.2 rfl (by decide) (.slice ab np cb) np (gps.map ptrV) rfl (World.ownsRow.alloc (uh HBX) _) ⟨w1.heap.size, 0, none⟩ 1 1 [ptrV gp] rfl rfl (z0o _ _ _) (z0a rfl) (by decide) (by unfold maxLen; omega) (by omega) (by simp; omega) _ rfl ?_; intro g4 c4 w4 hown4 hgrow4 hat4 hlt4; have hcl4 := ((z1e hgrow4).block gw q (fun e => by obtain ⟨c, f, hh⟩ := z0g (uh HBX) e; have := (uh HW1).cell.symm.trans hh; simp at this)).trans (uh HW1).cell; obtain ⟨⟨r0, r1⟩, ⟨z0, z1⟩, q4⟩ := duo0 hcl4)
   go_ret
   refine ⟨rfl, ?_⟩
   have e1 := uh HNP
   subst e1
   have hA := (uh HW1).addB (uh HP) init_sim (uh HL) (fun b hb => ?_) hown4 hgrow4 (hat4.imp (fun e => e) (fun e => by rw [e]; simp))
   ·refine ⟨_, _, _, _, _, hA, ?_, by simp; omega, by omega⟩
    have hB4 := (uh HB1).trans ((z1e hgrow4).belowN (fun b hb => ((uh HBX).lt b hb).1) hnw)
    exact hB4.setCell (p := ⟨gw, 0, none⟩) (uh HW1).ng _
   ·have hk := uh HWK
    have hz0 := hk.nw
    have hb0 := hb.1
    have hg0 := z0f hk.cell
    refine ⟨by omega, by omega, fun e => ?_, fun e => ?_, fun i hi he => ?_⟩
    ·have := (hk.boxes.lt b e).2; omega
    ·have := (hk.asked.lt b e).2; omega
    ·have := hk.lt hi he; omega
 obtain ⟨vb, vo, gps, os, E, hWK, hB, hl1, hl2⟩ := uh HM1
 have HWK := zh hWK
 have HB := zh hB
 obtain ⟨ab, cb, rfl, hmx, hrow⟩ := ptrs_open hWK.boxes
 obtain ⟨⟨c0, c1⟩, -, q⟩ := duo0 hWK.cell
 rw [<- hW] at c0 c1 q hrow HWK HB HM1
 by_cases hz : gps.length = 0
 ·have HM2 := zh ((uh HM1).mono (Nat.le_succ m))
  rw [hz] at c0
  subst hW
  clear h hba hWK hB hrow hz hmx
  go_enter Tryz.func13, Tryz.ntmps13
  go_wp2
  go_ret
  exact ⟨rfl, uh HM2⟩
 ·obtain ⟨j, hj, hpk⟩ := pick_val b gps.length (by omega) hmx (by omega)
  obtain ⟨g, rfl, hg, d0⟩ := hrow j hj
  have HPK := zh hpk
  have HCY := zh (fun (wz : World) (hbz : Below W.heap.size W wz) => WMid.cycle ((uh HWK).below hbz) ((uh HB).trans (hbz.mono (uh HWK).nw)) hl1 hl2 hj s)
  have HTE := zh (fun (wz : World) (hbz : Below W.heap.size W wz) => WMid.tells ((uh HWK).below hbz) ((uh HM1).below hbz) hj k)
  unfold ptrV at d0 HCY HTE
  generalize gps[j] = gp at *
  obtain ⟨np, hnp⟩ : ∃ np, np = gps.length := ⟨_, rfl⟩
  rw [<- hnp] at c0 hj HPK
  have hz2 : ((np : Int) == 0) = false := by simp; omega
  have hjn : (j : Int) < np := by omega
  have hj0 : (0 : Int) <= j := by omega
  clear h hba hWK hB hrow hmx hpk hz hnp
  subst hW
  go_enter Tryz.func13, Tryz.ntmps13
  go_wp2
  go_quiet ((go_at_call 28; exact Calls.quiet_of_same (uh HPK _)))
  by_cases k5 : k = 5
  ·subst k5
   have k5b : ((5 : Int) == 5) = true := rfl
   go_wp2_with fail
   refine (uh HCY _ (below_drewN (Below.refl _ _) _)).mono ?_
   rintro e w1 ⟨rfl, hM2⟩
   have HM2 := zh (hM2.mono (Nat.le_succ m))
   clear hM2
   go_wp2
   go_ret
   exact ⟨rfl, uh HM2⟩
  ·have k5b : (k == 5) = false := by simp [k5]
   go_wp2_with fail
   refine (uh HTE _ (below_drewN (Below.refl _ _) _)).mono ?_
   rintro e w1 ⟨rfl, hM2⟩
   have HM2 := zh (hM2.mono (Nat.le_succ m))
   clear hM2
   go_wp2
   go_ret
   exact ⟨rfl, uh HM2⟩
structure OpD where
 k : Int
 b : Int
 s : ByteArray
 t : ByteArray
def OpsIn (w : World) (ao : Option Addr) (len : Nat) (z : Nat -> OpD) : Prop := len * 48 <= 140737488355328 /\ (len = 0 \/ ∃ g off, ao = some ⟨g, off, none⟩ /\ ∀ j, j < len -> w.cell? ⟨g, off + j * 4, none⟩ = some (.int .i64 (z j).k) /\ w.cell? ⟨g, off + j * 4 + 1, none⟩ = some (.int .i64 (z j).b) /\ w.cell? ⟨g, off + j * 4 + 2, none⟩ = some (.string (z j).s) /\ w.cell? ⟨g, off + j * 4 + 3, none⟩ = some (.string (z j).t) /\ -9223372036854775808 <= (z j).b /\ (z j).b < 9223372036854775808)
theorem wok_init (w : World) : WMid w.heap.size w (w.alloc (.cells #[.slice none 0 0, .slice none 0 0] 31)) w.heap.size 0 :=
 ⟨.slice none 0 0, .slice none 0 0, [], [], fun _ _ => False, ⟨by simp, Nat.le_refl _, heap_alloc_new _ _, World.ownsRow_nil _ _ _ _, World.ownsRow_nil _ _ _ _, fun x hx => absurd hx (by simp), fun i hi => absurd hi (by simp), fun i hi => absurd hi (by simp), fun i j hi => absurd hi (by simp)⟩, z02 _ _, Nat.le_refl _, Nat.le_refl _⟩
set_option maxRecDepth 100000 in
set_option maxHeartbeats 4000000 in
theorem All_any (ao : Option Addr) (len cap : Nat) (z : Nat -> OpD) (w : World) (hF : OpsIn w ao len z) :
  Calls Tryz.prog 8 #[.slice ao len cap] w fun e w' => e = .returned (.bool true) /\ Below w.heap.size w w' := by
 obtain ⟨hlm, hF⟩ := hF
 have HFR := zh hF
 have HM0 := zh (wok_init w)
 have HST := zh (fun (wz : World) (m : Nat) (h : WMid w.heap.size w wz w.heap.size m) (hm : m < len) (j : Nat) (hb : -9223372036854775808 <= (z j).b /\ (z j).b < 9223372036854775808) => step_w w.heap.size w w.heap.size m (z j).k (z j).b (z j).s (z j).t wz h (by omega) hb)
 unfold opV at HST
 clear hF
 go_enter Tryz.func8, Tryz.ntmps8
 go_wp2
 go_loopw [4, 5] (fun d i wr => ∃ m : Nat, d = .bool true /\ i = .int .i64 m /\ m <= len /\ WMid w.heap.size w wr w.heap.size m) (fun _ i _ => len - (intOf i).toNat)
 case atStart => exact ⟨0, rfl, rfl, Nat.zero_le _, uh HM0⟩
 case round =>
  obtain ⟨m, rfl, rfl, hm, hM⟩ := hrel
  have HM := zh hM
  by_cases hlt : m < len
  ·rcases uh HFR with h | ⟨g, off, rfl, hc⟩
   ·omega
   obtain ⟨d0, d1, d2, d3, hbd⟩ := hc m hlt
   have hbk : g < w.heap.size := by
    rcases Nat.lt_or_ge g w.heap.size with h | h
    ·exact h
    ·unfold World.cell? at d0
     simp [Array.getElem?_eq_none h] at d0
   have hbl : Below w.heap.size w wr := by
    obtain ⟨-, -, -, -, -, -, hb, -⟩ := hM
    exact hb
   have e0 := (hbl.cell (p := ⟨g, off + m * 4, none⟩) hbk).trans d0
   have e1 := (hbl.cell (p := ⟨g, off + m * 4 + 1, none⟩) hbk).trans d1
   have e2 := (hbl.cell (p := ⟨g, off + m * 4 + 2, none⟩) hbk).trans d2
   have e3 := (hbl.cell (p := ⟨g, off + m * 4 + 3, none⟩) hbk).trans d3
   have hgw : g < wr.heap.size := by have := hbl.size; omega
   have HS := zh (uh HST wr m hM hlt m hbd)
   generalize (z m).k = zk at *
   generalize (z m).b = zb at *
   generalize (z m).s = zs at *
   generalize (z m).t = zt at *
   have l0 : (0 : Int) <= m := by omega
   have l1 : (m : Int) < len := by omega
   clear hc d0 d1 d2 d3 hM HM hbl hbd HM0
   go_wp2_with fail
   refine (uh HS).mono ?_
   rintro e w1 ⟨rfl, hM1⟩
   have HM1 := zh hM1
   clear hM1 HS
   go_wp2
   exact ⟨⟨m + 1, rfl, by go_num, by omega, uh HM1⟩, by simp [intOf]; omega⟩
  ·have l1 : ¬ (m : Int) < len := by omega
   obtain ⟨Wv, rfl⟩ : ∃ Wv, Wv = wr := ⟨wr, rfl⟩
   obtain ⟨vb, vo, gps, os, E, hW, hB, -, -⟩ := hM
   have HW := zh hW
   have HB := zh hB
   obtain ⟨ab, cb, rfl, hmx, hrow⟩ := ptrs_open hW.boxes
   have q0 := z0f hW.cell
   have HRW := zh hrow
   have HLK := zh (fun (wz : World) (hbz : Below Wv.heap.size Wv wz) (i : Nat) (hi : i < gps.length) => WMid.looks ((uh HW).below hbz) hi)
   unfold maxLen at hmx
   clear HM hB hrow HM0 hW
   go_wp2
   go_loopw [4, 6] (fun d i wq => ∃ j : Nat, d = .bool true /\ i = .int .i64 j /\ j <= gps.length /\ Below Wv.heap.size Wv wq) (fun _ i _ => gps.length - (intOf i).toNat)
   case atStart => exact ⟨0, rfl, rfl, Nat.zero_le _, Below.refl _ _⟩
   case round =>
    obtain ⟨j, rfl, rfl, hj, hbq⟩ := hrel
    have HBQ := zh hbq
    obtain ⟨⟨c0, c1⟩, -, q⟩ := duo0 ((hbq.block w.heap.size q0).trans (uh HW).cell)
    have hzq := hbq.size
    by_cases hlt2 : j < gps.length
    ·obtain ⟨g, rfl, hg, d0⟩ := uh HRW j hlt2
     have e0 := (hbq.cell (p := ⟨g, j, none⟩) hg).trans d0
     have HL := zh (uh HLK wr hbq j hlt2)
     unfold ptrV at e0 HL
     generalize gps[j] = gp at *
     have hgq : g < wr.heap.size := by omega
     have l2 : (0 : Int) <= j := by omega
     have l3 : (j : Int) < gps.length := by omega
     clear d0 hbq HRW HLK HW
     generalize gps.length = np at *
     go_wp2_with fail
     refine (uh HL).mono ?_
     rintro e w1 ⟨rfl, hb1⟩
     have HB1 := zh ((uh HBQ).trans (hb1.mono hzq))
     clear hb1 HL
     go_wp2
     exact ⟨⟨j + 1, rfl, by go_num, by omega, uh HB1⟩, by simp [intOf]; omega⟩
    ·have l3 : ¬ (j : Int) < gps.length := by omega
     clear hbq
     go_wp2
     go_ret
     exact ⟨rfl, (uh HB).trans ((uh HBQ).mono (uh HB).size)⟩
end Go.Proofs.YtkbpocecbcaiiaaGreatDoor
