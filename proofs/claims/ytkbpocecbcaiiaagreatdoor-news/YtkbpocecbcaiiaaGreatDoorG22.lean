import Derived.Test.YtkbpocecbcaiiaaGreatDoorG3
import Derived.Test.YtkbpocecbcaiiaaGreatDoorG1
import Derived.Laws.BytesArg
import Derived.Test.YtkbpocecbcaiiaaGreatDoorG2
/-
  THE DOCUMENT's BOX: in plain terms, and as it lies in memory.
-/
namespace Go.Proofs.YtkbpocecbcaiiaaGreatDoor
open Go.RowKit

structure RLn where
  ph : Nat
  train : Nat
  been : Bool
  marks : List Bool
  gone : Nat
  count : Nat
structure RBx where
  L : Lay
  lines : List RLn
  wanted : List Nat
  failed : List Bool
  late : List Nat
  sta : List Nat
  waits : List Nat
def RLn0 : RLn := ⟨46, 0, false, [], 0, 0⟩

def CRLn (w : World) (x : RLn) (cs : List Value) : Prop := ∃ vm, cs = [.int .u8 x.ph, .int .i64 x.train, .bool x.been, vm, .int .i64 x.gone, .int .i64 x.count] ∧ Bools w vm x.marks
theorem CRLn.keep {w w' : World} {x : RLn} {cs : List Value} (h : CRLn w x cs) (k : Keeps 4 w w') : CRLn w' x cs := by
  obtain ⟨vm, e, a⟩ := h
  exact ⟨vm, e, a.keep k⟩
def RLns (w : World) (v : Value) (l : List RLn) : Prop := SlAt 161 6 CRLn w v l
theorem RLns.keep {w w' : World} {v : Value} {l : List RLn} (h : RLns w v l) (k : Keeps 161 w w') (k1 : Keeps 4 w w') : RLns w' v l := SlAt.keep h k (fun _ _ h => h.keep k1)

/-- the box at block g. -/
def RBoxAt (w : World) (g : Nat) (B : RBx) : Prop := ∃ vh vr vt vl vw vf vd va vq,
  w.heap[g]? = some (.cells #[.int .i64 B.L.T, .int .i64 B.L.D, .int .i64 B.L.Q, vh, vr, vt, vl, vw, vf, vd, va, vq] 159 (0, 0)) ∧
  Bools w vh B.L.sw ∧ RRts w vr B.L.rts ∧ RTns w vt B.L.tns ∧ RLns w vl B.lines ∧ Byts w vw B.wanted ∧ Bools w vf B.failed ∧ Ints w vd B.late ∧ Ints w va B.sta ∧ Ints w vq B.waits
theorem RBoxAt.below {w w' : World} {g : Nat} {B : RBx} (h : RBoxAt w g B) (k : Below w.heap.size w w') : RBoxAt w' g B := by
  obtain ⟨vh, vr, vt, vl, vw, vf, vd, va, vq, e, h1, h2, h3, h4, h5, h6, h7, h8, h9⟩ := h
  have kk := fun e => Keeps.below (e := e) k
  exact ⟨vh, vr, vt, vl, vw, vf, vd, va, vq, (k.block g (blk_lt e)).trans e, h1.keep (kk _), h2.keep (kk _) (kk _) (kk _), h3.keep (kk _) (kk _), h4.keep (kk _) (kk _), h5.keep (kk _), h6.keep (kk _), h7.keep (kk _), h8.keep (kk _), h9.keep (kk _)⟩
/-- the twelve cells. -/
theorem box12 {w : World} {g : Nat} {c0 c1 c2 c3 c4 c5 c6 c7 c8 c9 c10 c11 : Value} {e : TypeId} (h : w.heap[g]? = some (.cells #[c0, c1, c2, c3, c4, c5, c6, c7, c8, c9, c10, c11] e (0, 0))) :
    (w.cell? ⟨g, 3, none⟩ = some c3 ∧ w.cell? ⟨g, 4, none⟩ = some c4 ∧ w.cell? ⟨g, 5, none⟩ = some c5 ∧ w.cell? ⟨g, 6, none⟩ = some c6 ∧ w.cell? ⟨g, 7, none⟩ = some c7 ∧ w.cell? ⟨g, 8, none⟩ = some c8 ∧
      w.cell? ⟨g, 9, none⟩ = some c9 ∧ w.cell? ⟨g, 10, none⟩ = some c10 ∧ w.cell? ⟨g, 11, none⟩ = some c11) ∧
    (w.frozen? ⟨g, 6, none⟩ = false ∧ w.frozen? ⟨g, 7, none⟩ = false ∧ w.frozen? ⟨g, 8, none⟩ = false ∧ w.frozen? ⟨g, 9, none⟩ = false ∧ w.frozen? ⟨g, 10, none⟩ = false ∧ w.frozen? ⟨g, 11, none⟩ = false) ∧ g < w.heap.size :=
  ⟨⟨blk_cell0 h 3, blk_cell0 h 4, blk_cell0 h 5, blk_cell0 h 6, blk_cell0 h 7, blk_cell0 h 8, blk_cell0 h 9, blk_cell0 h 10, blk_cell0 h 11⟩,
   ⟨blk_free0 h 6, blk_free0 h 7, blk_free0 h 8, blk_free0 h 9, blk_free0 h 10, blk_free0 h 11⟩, blk_lt h⟩

/-- numbers as a text. -/
def natsStr (l : List Nat) : ByteArray := ⟨(l.map UInt8.ofNat).toArray⟩
theorem natsStr_size (l : List Nat) : (natsStr l).size = l.length := by simp [natsStr, ByteArray.size]
theorem natsStr_snoc (l : List Nat) (x : Nat) : natsStr (l ++ [x]) = natsStr l ++ ⟨#[UInt8.ofNat x]⟩ := by
  apply ByteArray.ext
  simp [natsStr]

def RBx.line (B : RBx) (r : Nat) : RLn := B.lines.getD r RLn0
def RBx.lockB (B : RBx) (s r : Nat) : Bool := (B.line r).ph != 46 && ((secs (B.L.rt r).path).drop (B.line r).gone).contains s
def RBx.lockedBy (B : RBx) (s : Nat) : Option Nat := (List.range B.lines.length).find? (B.lockB s)
def optI : Option Nat → Int
  | none => -1
  | some r => r
def lockC : Option Nat → Nat
  | none => 46
  | some r => 65 + r
def RBx.locksT (B : RBx) : List Nat := (List.range B.L.sw.length).map (fun s => lockC (B.lockedBy s))
def RBx.phasesT (B : RBx) : List Nat := B.lines.map (·.ph)
def RBx.swT (B : RBx) (s : Nat) : List Nat := if B.L.sw.getD s false then [if B.failed.getD s false then 120 else B.wanted.getD s 0] else []
def RBx.switchesT (B : RBx) : List Nat := (List.range B.L.sw.length).flatMap B.swT
def RBx.stateT (B : RBx) : List Nat := B.sta.map (48 + ·)
def RBx.queueT (B : RBx) : List Nat := B.waits.map (49 + ·)

/-- '[]byte{x}' as a text. -/
theorem one_str (P : Program) (S T e : TypeId) (hs : P.underlying S = some (.slice e)) (he : P.underlying e = some (.int .u8)) (hd : P.underlying T = some .string) (w : World) (t : TypeId) (x : Int) :
    (convert S T (.slice (some ⟨w.heap.size, 0, none⟩) 1 1)).run P (w.alloc (.cells #[.int .u8 x] t)) = .ok (.string ⟨#[UInt8.ofNat x.toNat]⟩) (w.alloc (.cells #[.int .u8 x] t)) := by
  have := run_convert_bytes_arg (P := P) (w.alloc (.cells #[.int .u8 x] t)) S e hs he w.heap.size 0 1 1 [x] rfl (fun i hi => by
    obtain rfl : i = 0 := by omega
    have := cell_of_block (heap_alloc_new w (.cells #[.int .u8 x] t)) 0
    simp) T hd
  rw [this]
  simp [strOfNums]
theorem Tryz.oneStr (w : World) (t : TypeId) (x : Int) :
    (convert 75 9 (.slice (some ⟨w.heap.size, 0, none⟩) 1 1)).run Tryz.prog (w.alloc (.cells #[.int .u8 x] t)) = .ok (.string ⟨#[UInt8.ofNat x.toNat]⟩) (w.alloc (.cells #[.int .u8 x] t)) :=
  one_str _ _ _ 5 Tryz.underlying75 Tryz.underlying5 Tryz.underlying9 w t x
theorem map_take_succ {α : Type} (f : α → Nat) (l : List α) (k : Nat) (h : k < l.length) : (l.take (k + 1)).map f = (l.take k).map f ++ [f l[k]] := by
  rw [List.take_succ_eq_append_getElem h, List.map_append]; rfl
theorem wrap8 (x : Int) (h0 : 0 ≤ x) (h : x < 256) : IntKind.u8.wrap x = x := Go.IntWalk.u8_in _ (by omega)
end Go.Proofs.YtkbpocecbcaiiaaGreatDoor

/-
  THE WALKS OVER railsref: Phases, State, Queue, Switches.
-/
namespace Go.Proofs.YtkbpocecbcaiiaaGreatDoor
open Go.RowKit

set_option maxHeartbeats 400000 in
theorem rPhases_any (g : Nat) (B : RBx) (w : World) (h : RBoxAt w g B) (hl : B.lines.length ≤ 1000) :
    Calls Tryz.prog 67 #[.pointer (some ⟨g, 0, none⟩)] w fun e w' => e = .returned (.string (natsStr B.phasesT)) ∧ Below w.heap.size w w' := by
  obtain ⟨vh, vr, vt, vl, vw, vf, vd, va, vq, hB, -, -, -, h4, -⟩ := h
  obtain ⟨ao, cap, rfl, -, hm, h3⟩ := SlAt.open h4
  unfold RBx.phasesT
  generalize B.lines = l at *
  obtain ⟨⟨-, -, -, q6, -⟩, -, qg⟩ := box12 hB
  unfold maxLen at hm
  clear h4 hB
  have kc := Tryz.oneStr
  go_enter Tryz.func67, Tryz.ntmps67
  go_wp2
  go_loopw [3, 4] (fun d i wr => ∃ k : Nat, k ≤ l.length ∧ i = .int .i64 k ∧ d = .string (natsStr ((l.take k).map (·.ph))) ∧ Below w.heap.size w wr) (fun _ i _ => l.length - (intOf i).toNat)
  case atStart => exact ⟨0, Nat.zero_le _, rfl, rfl, Below.refl _ _⟩
  case round =>
    obtain ⟨k, hk, rfl, rfl, hb⟩ := hrel
    have hsz := natsStr_size ((l.take k).map (·.ph))
    rw [List.length_map, List.length_take, Nat.min_eq_left hk] at hsz
    obtain ⟨p, hp⟩ : ∃ p, p = natsStr ((l.take k).map (·.ph)) := ⟨_, rfl⟩
    rw [← hp] at hsz ⊢
    have HP := hide hp
    rw [← hb.cell (p := ⟨g, 6, none⟩) qg] at q6
    have HB := hide hb
    have hbs := hb.size
    clear hp
    by_cases hlt : k < l.length
    · obtain ⟨gl, off, hao, hg, cs, -, hC, hc⟩ := h3 k hlt
      subst hao
      obtain ⟨vm, hcs, -⟩ := hC
      subst hcs
      have hc0 := hc 0 (by omega)
      rw [← hb.cell (p := ⟨gl, _, none⟩) hg] at hc0
      simp at hc0
      have HS := hide (show natsStr ((l.take (k + 1)).map (·.ph)) = p ++ ⟨#[UInt8.ofNat l[k].ph]⟩ by
        rw [unhide HP, map_take_succ _ _ _ hlt, natsStr_snoc])
      clear hc h3 hb
      generalize l[k].ph = t at *
      go_wp2
      exact ⟨⟨k + 1, by omega, by go_num, by first | (rw [unhide HS]; done) | (rw [unhide HS]; simp; done) | (rw [unhide HS, u2]; done), (unhide HB).alloc hbs _⟩, by simp [intOf]; omega⟩
    · obtain rfl : k = l.length := by omega
      rw [List.take_length] at HP
      clear h3 hb
      go_wp2
      go_ret
      exact ⟨by first | (rw [unhide HP]; done) | (rw [← unhide HP]; rfl), unhide HB⟩

set_option maxHeartbeats 400000 in
theorem rState_any (g : Nat) (B : RBx) (w : World) (h : RBoxAt w g B) (hl : B.sta.length ≤ 1000) (hs : ∀ x, x ∈ B.sta → x ≤ 100) :
    Calls Tryz.prog 69 #[.pointer (some ⟨g, 0, none⟩)] w fun e w' => e = .returned (.string (natsStr B.stateT)) ∧ Below w.heap.size w w' := by
  obtain ⟨vh, vr, vt, vl, vw, vf, vd, va, vq, hB, -, -, -, -, -, -, -, h4, -⟩ := h
  obtain ⟨ao, cap, rfl, -, hm, h3⟩ := SlAt.open h4
  unfold RBx.stateT
  generalize B.sta = l at *
  obtain ⟨⟨-, -, -, -, -, -, -, q6, -⟩, -, qg⟩ := box12 hB
  unfold maxLen at hm
  clear h4 hB
  have kc := Tryz.oneStr
  have HX := hide hs
  clear hs
  go_enter Tryz.func69, Tryz.ntmps69
  go_wp2
  go_loopw [3, 4] (fun d i wr => ∃ k : Nat, k ≤ l.length ∧ i = .int .i64 k ∧ d = .string (natsStr ((l.take k).map (48 + ·))) ∧ Below w.heap.size w wr) (fun _ i _ => l.length - (intOf i).toNat)
  case atStart => exact ⟨0, Nat.zero_le _, rfl, rfl, Below.refl _ _⟩
  case round =>
    obtain ⟨k, hk, rfl, rfl, hb⟩ := hrel
    have hsz := natsStr_size ((l.take k).map (48 + ·))
    rw [List.length_map, List.length_take, Nat.min_eq_left hk] at hsz
    obtain ⟨p, hp⟩ : ∃ p, p = natsStr ((l.take k).map (48 + ·)) := ⟨_, rfl⟩
    rw [← hp] at hsz ⊢
    have HP := hide hp
    rw [← hb.cell (p := ⟨g, 10, none⟩) qg] at q6
    have HB := hide hb
    have hbs := hb.size
    clear hp
    by_cases hlt : k < l.length
    · obtain ⟨gl, off, hao, hg, cs, -, hC, hc⟩ := h3 k hlt
      subst hao
      unfold CInt at hC
      subst hC
      have hc0 := hc 0 (by omega)
      rw [← hb.cell (p := ⟨gl, _, none⟩) hg] at hc0
      simp at hc0
      have hx := unhide HX _ (List.getElem_mem hlt)
      have HS := hide (show natsStr ((l.take (k + 1)).map (48 + ·)) = p ++ ⟨#[UInt8.ofNat (48 + l[k])]⟩ by
        rw [unhide HP, map_take_succ _ _ _ hlt, natsStr_snoc])
      clear hc h3 hb
      generalize l[k] = t at *
      have u1 := wrap8 (48 + (t : Int)) (by omega) (by omega)
      have u2 : (48 + (t : Int)).toNat = 48 + t := by omega
      go_wp2
      exact ⟨⟨k + 1, by omega, by go_num, by first | (rw [unhide HS]; done) | (rw [unhide HS]; simp; done) | (rw [unhide HS, u2]; done), (unhide HB).alloc hbs _⟩, by simp [intOf]; omega⟩
    · obtain rfl : k = l.length := by omega
      rw [List.take_length] at HP
      clear h3 hb
      go_wp2
      go_ret
      exact ⟨by first | (rw [unhide HP]; done) | (rw [← unhide HP]; rfl), unhide HB⟩
set_option maxHeartbeats 400000 in
theorem rQueue_any (g : Nat) (B : RBx) (w : World) (h : RBoxAt w g B) (hl : B.waits.length ≤ 1000) (hs : ∀ x, x ∈ B.waits → x ≤ 100) :
    Calls Tryz.prog 70 #[.pointer (some ⟨g, 0, none⟩)] w fun e w' => e = .returned (.string (natsStr B.queueT)) ∧ Below w.heap.size w w' := by
  obtain ⟨vh, vr, vt, vl, vw, vf, vd, va, vq, hB, -, -, -, -, -, -, -, -, h4⟩ := h
  obtain ⟨ao, cap, rfl, -, hm, h3⟩ := SlAt.open h4
  unfold RBx.queueT
  generalize B.waits = l at *
  obtain ⟨⟨-, -, -, -, -, -, -, -, q6⟩, -, qg⟩ := box12 hB
  unfold maxLen at hm
  clear h4 hB
  have kc := Tryz.oneStr
  have HX := hide hs
  clear hs
  go_enter Tryz.func70, Tryz.ntmps70
  go_wp2
  go_loopw [3, 4] (fun d i wr => ∃ k : Nat, k ≤ l.length ∧ i = .int .i64 k ∧ d = .string (natsStr ((l.take k).map (49 + ·))) ∧ Below w.heap.size w wr) (fun _ i _ => l.length - (intOf i).toNat)
  case atStart => exact ⟨0, Nat.zero_le _, rfl, rfl, Below.refl _ _⟩
  case round =>
    obtain ⟨k, hk, rfl, rfl, hb⟩ := hrel
    have hsz := natsStr_size ((l.take k).map (49 + ·))
    rw [List.length_map, List.length_take, Nat.min_eq_left hk] at hsz
    obtain ⟨p, hp⟩ : ∃ p, p = natsStr ((l.take k).map (49 + ·)) := ⟨_, rfl⟩
    rw [← hp] at hsz ⊢
    have HP := hide hp
    rw [← hb.cell (p := ⟨g, 11, none⟩) qg] at q6
    have HB := hide hb
    have hbs := hb.size
    clear hp
    by_cases hlt : k < l.length
    · obtain ⟨gl, off, hao, hg, cs, -, hC, hc⟩ := h3 k hlt
      subst hao
      unfold CInt at hC
      subst hC
      have hc0 := hc 0 (by omega)
      rw [← hb.cell (p := ⟨gl, _, none⟩) hg] at hc0
      simp at hc0
      have hx := unhide HX _ (List.getElem_mem hlt)
      have HS := hide (show natsStr ((l.take (k + 1)).map (49 + ·)) = p ++ ⟨#[UInt8.ofNat (49 + l[k])]⟩ by
        rw [unhide HP, map_take_succ _ _ _ hlt, natsStr_snoc])
      clear hc h3 hb
      generalize l[k] = t at *
      have u1 := wrap8 (49 + (t : Int)) (by omega) (by omega)
      have u2 : (49 + (t : Int)).toNat = 49 + t := by omega
      go_wp2
      exact ⟨⟨k + 1, by omega, by go_num, by first | (rw [unhide HS]; done) | (rw [unhide HS]; simp; done) | (rw [unhide HS, u2]; done), (unhide HB).alloc hbs _⟩, by simp [intOf]; omega⟩
    · obtain rfl : k = l.length := by omega
      rw [List.take_length] at HP
      clear h3 hb
      go_wp2
      go_ret
      exact ⟨by first | (rw [unhide HP]; done) | (rw [← unhide HP]; rfl), unhide HB⟩
end Go.Proofs.YtkbpocecbcaiiaaGreatDoor

/-
  THE WALKS OVER railsref: Switches, locked, Locks.
-/
namespace Go.Proofs.YtkbpocecbcaiiaaGreatDoor
open Go.RowKit

theorem swT_snoc (f : Nat → List Nat) (k : Nat) : (List.range (k + 1)).flatMap f = (List.range k).flatMap f ++ f k := by
  rw [List.range_succ, List.flatMap_append]; simp
theorem natsStr_app (a b : List Nat) : natsStr (a ++ b) = natsStr a ++ natsStr b := by
  apply ByteArray.ext
  simp [natsStr]
theorem natsStr_one (x : Nat) : natsStr [x] = ⟨#[UInt8.ofNat x]⟩ := rfl
theorem natsStr_nil : natsStr [] = ⟨#[]⟩ := rfl
theorem app_nil (p : ByteArray) : p ++ (⟨#[]⟩ : ByteArray) = p := by
  apply ByteArray.ext
  simp
theorem flat_le (f : Nat → List Nat) (h : ∀ s, (f s).length ≤ 1) (k : Nat) : ((List.range k).flatMap f).length ≤ k := by
  induction k with
  | zero => simp
  | succ k ih => rw [swT_snoc]; have := h k; simp only [List.length_append]; omega

set_option maxHeartbeats 1000000 in
theorem rSwitches_any (g : Nat) (B : RBx) (w : World) (h : RBoxAt w g B) (hl : B.L.sw.length ≤ 1000) (hw : B.wanted.length = B.L.sw.length) (hf : B.failed.length = B.L.sw.length) :
    Calls Tryz.prog 68 #[.pointer (some ⟨g, 0, none⟩)] w fun e w' => e = .returned (.string (natsStr B.switchesT)) ∧ Below w.heap.size w w' := by
  obtain ⟨vh, vr, vt, vl, vw, vf, vd, va, vq, hB, hH, -, -, -, hW, hF, -⟩ := h
  obtain ⟨ao, cap, rfl, -, hm, h3⟩ := SlAt.open hH
  obtain ⟨aw, cw, rfl, -, hmw, h5⟩ := SlAt.open hW
  obtain ⟨af, cf, rfl, -, hmf, h7⟩ := SlAt.open hF
  have HT := hide (show ∀ k (h : k < B.L.sw.length) (hf : k < B.failed.length) (hw : k < B.wanted.length), B.swT k = if B.L.sw[k] then [if B.failed[k] then 120 else B.wanted[k]] else [] by
    intro k h hf hw
    have h1 : B.L.sw.getD k false = B.L.sw[k] := by rw [List.getD_eq_getElem?_getD, List.getElem?_eq_getElem h]; rfl
    have h2 : B.failed.getD k false = B.failed[k] := by rw [List.getD_eq_getElem?_getD, List.getElem?_eq_getElem ‹_›]; rfl
    have h3 : B.wanted.getD k 0 = B.wanted[k] := by rw [List.getD_eq_getElem?_getD, List.getElem?_eq_getElem ‹_›]; rfl
    unfold RBx.swT
    rw [h1, h2, h3])
  have hle := flat_le B.swT (by intro s; unfold RBx.swT; split <;> simp)
  obtain ⟨⟨q3, -, -, -, q7, q8, -⟩, -, qg⟩ := box12 hB
  unfold RBx.switchesT
  generalize B.swT = f at *
  generalize B.L.sw = l at *
  generalize B.wanted = wa at *
  generalize B.failed = fa at *
  unfold maxLen at hm hmw hmf
  clear hH hW hF hB
  have kc := Tryz.oneStr
  have HLE := hide hle
  clear hle
  go_enter Tryz.func68, Tryz.ntmps68
  go_wp2
  go_loopw [3, 4] (fun d i wr => ∃ k : Nat, k ≤ l.length ∧ i = .int .i64 k ∧ d = .string (natsStr ((List.range k).flatMap f)) ∧ Below w.heap.size w wr) (fun _ i _ => l.length - (intOf i).toNat)
  case atStart => exact ⟨0, Nat.zero_le _, rfl, rfl, Below.refl _ _⟩
  case round =>
    obtain ⟨k, hk, rfl, rfl, hb⟩ := hrel
    have hsz := natsStr_size ((List.range k).flatMap f)
    have hle := unhide HLE k
    rw [← hsz] at hle
    clear hsz
    obtain ⟨p, hp⟩ : ∃ p, p = natsStr ((List.range k).flatMap f) := ⟨_, rfl⟩
    rw [← hp] at hle ⊢
    have HP := hide hp
    rw [← hb.cell (p := ⟨g, 3, none⟩) qg] at q3
    rw [← hb.cell (p := ⟨g, 7, none⟩) qg] at q7
    rw [← hb.cell (p := ⟨g, 8, none⟩) qg] at q8
    have HB := hide hb
    have hbs := hb.size
    clear hp
    by_cases hlt : k < l.length
    · obtain ⟨gl, off, hao, hg, cs, -, hC, hc⟩ := h3 k hlt
      obtain ⟨gw, offw, haw, hgw, csw, -, hCw, hcw⟩ := h5 k (by omega)
      obtain ⟨gf, offf, haf, hgf, csf, -, hCf, hcf⟩ := h7 k (by omega)
      subst hao haw haf
      unfold CBool at hC hCf
      unfold CByte at hCw
      subst hC hCw hCf
      have hc0 := hc 0 (by omega)
      have hw0 := hcw 0 (by omega)
      have hf0 := hcf 0 (by omega)
      rw [← hb.cell (p := ⟨gl, _, none⟩) hg] at hc0
      rw [← hb.cell (p := ⟨gw, _, none⟩) hgw] at hw0
      rw [← hb.cell (p := ⟨gf, _, none⟩) hgf] at hf0
      simp at hc0 hw0 hf0
      have HS := hide (show natsStr ((List.range (k + 1)).flatMap f) = p ++ natsStr (f k) by
        rw [unhide HP, swT_snoc, natsStr_app])
      have hkf : k < fa.length := by omega
      have hkw : k < wa.length := by omega
      rw [unhide HT k hlt hkf hkw] at HS
      have e1 : (k : Int) < l.length := by omega
      have e2 : (k : Int) < wa.length := by omega
      have e3 : (k : Int) < fa.length := by omega
      clear hc hcw hcf h3 h5 h7 hb
      generalize l[k] = b1 at *
      generalize fa[k] = b2 at *
      generalize wa[k] = x at *
      cases b1 with
      | false =>
        go_wp2
        exact ⟨⟨k + 1, by omega, by go_num, by rw [unhide HS]; simp [natsStr_nil, app_nil], unhide HB⟩, by simp [intOf]; omega⟩
      | true =>
        cases b2 with
        | true =>
          go_wp2
          exact ⟨⟨k + 1, by omega, by go_num, by rw [unhide HS]; rfl, unhide HB⟩, by simp [intOf]; omega⟩
        | false =>
          go_wp2
          exact ⟨⟨k + 1, by omega, by go_num, by rw [unhide HS]; rfl, (unhide HB).alloc hbs _⟩, by simp [intOf]; omega⟩
    · obtain rfl : k = l.length := by omega
      clear h3 h5 h7 hb
      go_wp2
      go_ret
      exact ⟨by first | (rw [unhide HP]; done) | (rw [← unhide HP]; rfl), unhide HB⟩

theorem contains_drop (P : List Nat) (n s : Nat) : (P.drop n).contains s = true ↔ ∃ j, ∃ h : j < P.length, n ≤ j ∧ P[j] = s := by
  rw [List.contains_iff_mem, List.mem_iff_getElem]
  constructor
  · rintro ⟨i, hi, he⟩
    rw [List.length_drop] at hi
    rw [List.getElem_drop] at he
    exact ⟨n + i, by omega, by omega, he⟩
  · rintro ⟨j, hj, hn, he⟩
    refine ⟨j - n, by rw [List.length_drop]; omega, ?_⟩
    rw [List.getElem_drop]
    simp only [show n + (j - n) = j by omega]
    exact he

theorem rfind_none (p : Nat → Bool) (n : Nat) (h : ∀ k, k < n → p k = false) : (List.range n).find? p = none := by
  rw [List.find?_eq_none]; intro x hx; rw [h x (List.mem_range.1 hx)]; simp
theorem rfind_some (p : Nat → Bool) (n k : Nat) (hk : k < n) (h : ∀ j, j < k → p j = false) (hp : p k = true) : (List.range n).find? p = some k := by
  rw [List.find?_eq_some_iff_append]
  refine ⟨hp, List.range k, (List.range (n - k - 1)).map (· + (k + 1)), ?_, ?_⟩
  · have e : n = k + (1 + (n - k - 1)) := by omega
    conv => lhs; rw [e]
    rw [List.range_add, List.range_add]
    simp [List.range_one, Nat.add_comm, Nat.add_left_comm, Function.comp_def]
  · intro x hx; rw [h x (List.mem_range.1 hx)]; rfl

set_option maxHeartbeats 1000000 in
theorem rlocked_any (g : Nat) (B : RBx) (s : Nat) (w : World) (h : RBoxAt w g B) (hl : B.lines.length ≤ B.L.rts.length) (hr : B.L.rts.length ≤ 1000) (hgo : ∀ x, x ∈ B.lines → x.gone ≤ 1000) :
    Calls Tryz.prog 109 #[.pointer (some ⟨g, 0, none⟩), .int .i64 s] w fun e w' => e = .returned (.int .i64 (optI (B.lockedBy s))) ∧ w' = w := by
  obtain ⟨vh, vr, vt, vl, vw, vf, vd, va, vq, hB, -, hR, -, hL, -⟩ := h
  obtain ⟨ar, cr, rfl, -, hmr, r3⟩ := SlAt.open hR
  obtain ⟨al, cl, rfl, -, hml, l3⟩ := SlAt.open hL
  obtain ⟨⟨-, q4, -, q6, -⟩, -, qg⟩ := box12 hB
  have HK := hide (show ∀ k (h : k < B.lines.length) (hr : k < B.L.rts.length), B.lockB s k = (B.lines[k].ph != 46 && ((secs B.L.rts[k].path).drop B.lines[k].gone).contains s) by
    intro k h hr
    have h1 : B.line k = B.lines[k] := by unfold RBx.line; rw [List.getD_eq_getElem?_getD, List.getElem?_eq_getElem h]; rfl
    unfold RBx.lockB
    rw [h1, rt_eq B.L k hr])
  unfold RBx.lockedBy
  generalize hlb : B.lockB s = f at *
  clear hlb
  generalize B.lines = ls at *
  generalize B.L.rts = rs at *
  unfold maxLen at hmr hml
  obtain ⟨Z, hZ⟩ : ∃ Z, Z = optI ((List.range ls.length).find? f) := ⟨_, rfl⟩
  rw [← hZ]
  have HZ := hide hZ
  clear hR hL hB hZ
  go_enter Tryz.func109, Tryz.ntmps109
  go_wp2
  go_loopw [5] (fun i wr => ∃ k : Nat, k ≤ ls.length ∧ i = .int .i64 k ∧ (∀ j, j < k → f j = false) ∧ wr = w) (fun i _ => ls.length - (intOf i).toNat)
  case atStart => exact ⟨0, Nat.zero_le _, rfl, fun j h => by omega, rfl⟩
  case round =>
    obtain ⟨k, hk, rfl, hno, rfl⟩ := hrel
    have HNO := hide hno
    clear hno
    by_cases hlt : k < ls.length
    · obtain ⟨gl, ol, hal, hgl, cs, -, hC, hc⟩ := l3 k hlt
      obtain ⟨gr, or_, har, hgr, csr, -, hCr, hcr⟩ := r3 k (by omega)
      subst hal har
      obtain ⟨vm, hcs, -⟩ := hC
      obtain ⟨vp, vs, vfl, vg, hcsr, hP, -⟩ := hCr
      subst hcs hcsr
      have c0 := hc 0 (by omega)
      have c4 := hc 4 (by omega)
      have d1 := hcr 1 (by omega)
      simp at c0 c4 d1
      obtain ⟨ap, cp, rfl, hpc, hmp, p3⟩ := SlAt.open hP
      unfold maxLen at hmp
      have hkr : k < rs.length := by omega
      have HF := hide (unhide HK k hlt hkr)
      have e1 : (k : Int) < ls.length := by omega
      have e2 : (k : Int) < rs.length := by omega
      have hgn := hgo _ (List.getElem_mem hlt)
      clear hc hcr hP r3 l3 hgo
      generalize secs rs[k].path = P at *
      generalize ls[k].ph = ph at *
      generalize ls[k].gone = gn at *
      have hcd := hide (contains_drop P gn s)
      go_wp2
      go_loopw [7] (fun i wz => ∃ m : Nat, i = .int .i64 m ∧ gn ≤ m ∧ m ≤ P.length + 1000 ∧ (∀ j (h : j < P.length), gn ≤ j → j < m → ph ≠ 46 → P[j] ≠ s) ∧ wz = wr) (fun i _ => P.length - (intOf i).toNat)
      case atStart => exact ⟨gn, rfl, Nat.le_refl _, by omega, fun j h h1 h2 => by omega, rfl⟩
      case round =>
        obtain ⟨m, rfl, hgm, hm62, hno, rfl⟩ := hrel
        have HN2 := hide hno
        clear hno
        by_cases hm : m < P.length
        · obtain ⟨gp, op, hap, hgp, csp, -, hCp, hcp⟩ := p3 m hm
          subst hap
          unfold CInt at hCp
          subst hCp
          have x0 := hcp 0 (by omega)
          simp at x0
          have e3 : (m : Int) < P.length := by omega
          have e4 : (0 : Int) ≤ m := by omega
          have HNN := hide (show (ph ≠ 46 → P[m] ≠ s) → ∀ j (h : j < P.length), gn ≤ j → j < m + 1 → ph ≠ 46 → P[j] ≠ s by
            intro hx j h h1 h2 h3
            by_cases hj : j < m
            · exact unhide HN2 j h h1 hj h3
            · obtain rfl : j = m := by omega
              exact hx h3)
          have HFD := hide (show gn ≤ m → ph ≠ 46 → P[m] = s → f k = true by
            intro h0 h1 h2
            rw [unhide HF, Bool.and_eq_true]
            exact ⟨by simp [h1], (unhide hcd).2 ⟨m, hm, h0, h2⟩⟩)
          clear hcp p3
          generalize P[m] = x at *
          by_cases hph : ph = 46
          · have b1 : ((ph : Int) != 46) = false := by simp [hph]
            go_wp2
            exact ⟨⟨m + 1, by go_num, by omega, by omega, unhide HNN (fun h => absurd hph h), by trivial⟩, by simp [intOf]; omega⟩
          · have b1 : ((ph : Int) != 46) = true := by simp; omega
            by_cases hxs : x = s
            · have b2 : ((x : Int) == s) = true := by simp [hxs]
              have HZ2 := hide (show Z = k by
                rw [unhide HZ, rfind_some f _ k hlt (unhide HNO) (unhide HFD hgm hph hxs)]; rfl)
              go_wp2
              go_ret
              exact ⟨ret_int (unhide HZ2).symm, rfl⟩
            · have b2 : ((x : Int) == s) = false := by simp; omega
              go_wp2
              exact ⟨⟨m + 1, by go_num, by omega, by omega, unhide HNN (fun _ => hxs), by trivial⟩, by simp [intOf]; omega⟩
        · have HF0 := hide (show f k = false by
            rw [unhide HF]
            by_cases hph : ph = 46
            · simp [hph]
            · have : (P.drop gn).contains s = false := by
                rw [Bool.eq_false_iff]
                intro h
                obtain ⟨j, hj, h1, h2⟩ := (unhide hcd).1 h
                exact unhide HN2 j hj h1 (by omega) hph h2
              rw [this]; simp)
          have e3 : (P.length : Int) ≤ m := by omega
          clear p3
          go_wp2
          refine ⟨⟨k + 1, by omega, by go_num, fun j hj => ?_, by trivial⟩, by simp [intOf]; omega⟩
          by_cases hj' : j < k
          · exact unhide HNO j hj'
          · obtain rfl : j = k := by omega
            exact unhide HF0
    · obtain rfl : k = ls.length := by omega
      have HZ2 := hide (show Z = -1 by rw [unhide HZ, rfind_none f _ (unhide HNO)]; rfl)
      clear r3 l3 hgo
      go_wp2
      go_ret
      exact ⟨ret_int (unhide HZ2).symm, rfl⟩
end Go.Proofs.YtkbpocecbcaiiaaGreatDoor
