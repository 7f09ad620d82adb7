import Derived.Test.YtkbpocecbcaiiaaGreatDoorG2
import Derived.Test.YtkbpocecbcaiiaaGreatDoorG1
import Derived.Test.YtkbpocecbcaiiaaGreatDoorG22
import Derived.Test.YtkbpocecbcaiiaaGreatDoorG9
import Derived.Test.YtkbpocecbcaiiaaGreatDoorG6
import Derived.Test.YtkbpocecbcaiiaaGreatDoorG28
import Derived.Test.YtkbpocecbcaiiaaGreatDoorG29
import Derived.Test.YtkbpocecbcaiiaaGreatDoorG4
/-
  THE WALK OVER strconv.Itoa, at the numbers that Order hands it.
-/
namespace Go.Proofs.YtkbpocecbcaiiaaGreatDoor
open Go.RowKit

set_option maxHeartbeats 400000 in
theorem Itoa_any (n : Nat) (w : World) (h : n < 10) :
    Calls Tryz.prog 97 #[.int .i64 n] w fun e w' => e = .returned (.string ⟨#[UInt8.ofNat (48 + n)]⟩) ∧ w' = w := by
  have h10 : (n : Int) < 10 := by omega
  have h100 : (n : Int) < 100 := by omega
  have h0 : (0 : Int) ≤ n := by omega
  go_enter Tryz.func97, Tryz.ntmps97
  go_wp2
  go_ret
  refine ⟨?_, rfl⟩
  clear h10 h100 h0
  match n, h with
  | 0, _ => rfl
  | 1, _ => rfl
  | 2, _ => rfl
  | 3, _ => rfl
  | 4, _ => rfl
  | 5, _ => rfl
  | 6, _ => rfl
  | 7, _ => rfl
  | 8, _ => rfl
  | 9, _ => rfl
end Go.Proofs.YtkbpocecbcaiiaaGreatDoor

/-
  AN ORDER AS A TEXT; AN ORDER FOLLOWED TO ITS END.
-/
namespace Go.Proofs.YtkbpocecbcaiiaaGreatDoor

/-- an order, followed to its end. -/
def Lay.Foll (L : Lay) : List Nat → List Nat → Prop
  | at_, [] => L.allDone at_ = true
  | at_, t :: o => t < at_.length ∧ L.doneB at_ t = false ∧ L.runsB at_ t = true ∧ L.Foll (L.withN at_ t) o

def ordStr (o : List Nat) : ByteArray := ⟨(o.map (fun t => UInt8.ofNat (49 + t))).toArray⟩
theorem ordStr_snoc (o : List Nat) (t : Nat) : ordStr o ++ ⟨#[UInt8.ofNat (48 + (t + 1))]⟩ = ordStr (o ++ [t]) := by
  apply ByteArray.ext
  rw [ByteArray.data_append]
  unfold ordStr
  rw [show 48 + (t + 1) = 49 + t by omega]
  simp
theorem ordStr_size (o : List Nat) : (ordStr o).size = o.length := by simp [ordStr, ByteArray.size]
theorem ordStr_get (o : List Nat) (k : Nat) (h : k < (ordStr o).size) (h9 : ∀ t, t ∈ o → t < 9) : (ordStr o)[k].toNat = 49 + o[k]'(by rw [ordStr_size] at h; exact h) := by
  have hk : k < o.length := by rw [ordStr_size] at h; exact h
  have e : (ordStr o)[k] = UInt8.ofNat (49 + o[k]) := by
    show (ordStr o).data[k]'(by exact h) = _
    simp [ordStr]
  have := h9 _ (List.getElem_mem hk)
  rw [e, UInt8.toNat_ofNat_of_lt' (by simp [UInt8.size]; omega)]
end Go.Proofs.YtkbpocecbcaiiaaGreatDoor

/-
  THE WALK OVER rails.digits.
-/
namespace Go.Proofs.YtkbpocecbcaiiaaGreatDoor
open Go.RowKit

theorem Itoa_succ (n : Nat) (w : World) (h : n < 9) :
    Calls Tryz.prog 97 #[.int .i64 ((n : Int) + 1)] w fun e w' => e = .returned (.string ⟨#[UInt8.ofNat (48 + (n + 1))]⟩) ∧ w' = w := by
  have := Itoa_any (n + 1) w (by omega)
  rw [show ((n + 1 : Nat) : Int) = (n : Int) + 1 by omega] at this
  exact this

set_option maxHeartbeats 1000000 in
theorem digits_any (v : Value) (o : List Nat) (w : World) (h : Ints w v o) (h9 : ∀ t, t ∈ o → t < 9) (_hlo : o.length ≤ 1000) :
    Calls Tryz.prog 94 #[v] w fun e w' => e = .returned (.string (ordStr o)) ∧ w' = w := by
  have HT := hide h9
  obtain ⟨ag, cg, rfl, h1, h2, h3⟩ := SlAt.open h
  unfold maxLen at h2
  clear h h9
  go_enter Tryz.func94, Tryz.ntmps94
  go_wp2
  go_loopw [3, 8] (fun d i wr => ∃ k : Nat, k ≤ o.length ∧ i = .int .i64 k ∧ d = .string (ordStr (o.take k)) ∧ wr = w) (fun _ i _ => o.length - (intOf i).toNat)
  case atStart => exact ⟨0, Nat.zero_le _, rfl, rfl, rfl⟩
  case round =>
    obtain ⟨k, hk, rfl, rfl, rfl⟩ := hrel
    have hsz := ordStr_size (o.take k)
    rw [List.length_take, Nat.min_eq_left hk] at hsz
    obtain ⟨p, hp⟩ : ∃ p, p = ordStr (o.take k) := ⟨_, rfl⟩
    rw [← hp] at hsz ⊢
    have HP := hide hp
    clear hp
    by_cases hlt : k < o.length
    · obtain ⟨g, off, hao, hg, cs, -, hC, hc⟩ := h3 k hlt
      subst hao
      unfold CInt at hC
      subst hC
      have hc0 := hc 0 (by omega)
      simp at hc0
      have h9 := unhide HT _ (List.getElem_mem hlt)
      have HS := hide (show ordStr (o.take (k + 1)) = p ++ ⟨#[UInt8.ofNat (48 + (o[k] + 1))]⟩ by
        rw [unhide HP, ordStr_snoc, List.take_succ_eq_append_getElem hlt])
      clear hc h3
      generalize o[k] = t at *
      go_wp2_with (go_at_call 97; refine (Itoa_succ t _ h9).mono ?_; rintro e w' ⟨rfl, rfl⟩)
      exact ⟨⟨k + 1, by omega, by go_num, by rw [unhide HS]; simp, by trivial⟩, by simp [intOf]; omega⟩
    · obtain rfl : k = o.length := by omega
      rw [List.take_length] at HP
      clear h3
      go_wp2
      go_ret
      exact ⟨by first | (rw [unhide HP]; done) | (rw [← unhide HP]; rfl), rfl⟩

end Go.Proofs.YtkbpocecbcaiiaaGreatDoor

/-
  THE PROGRAM's BOX: in plain terms, and as it lies in memory; what reads a route of it.
-/
namespace Go.Proofs.YtkbpocecbcaiiaaGreatDoor
open Go.RowKit

structure PRt where
  rt : Rt
  ph : Nat
  train : Nat
  been : Bool
  count : Nat
  marked : List Bool
  freed : Nat
structure PSw where
  wanted : Nat
  late : Nat
  failed : Bool
structure PBx where
  L : Lay
  rts : List PRt
  sws : List PSw
  sta : List Nat
  waits : List Nat
def PRt.new (r : Rt) : PRt := ⟨r, 46, 0, false, 0, [], 0⟩
def PSw.new : PSw := ⟨43, 0, false⟩
def swV (x : PSw) : List Value := [.int .u8 x.wanted, .int .i64 x.late, .bool x.failed]
def CPSw (_ : World) (x : PSw) (cs : List Value) : Prop := cs = swV x
def PSws (w : World) (v : Value) (l : List PSw) : Prop := SlAt 121 3 CPSw w v l
theorem PSws.keep {w w' : World} {v : Value} {l : List PSw} (h : PSws w v l) (k : Keeps 121 w w') : PSws w' v l := SlAt.keep h k (fun _ _ h => h)

def CPRt (w : World) (x : PRt) (cs : List Value) : Prop := ∃ vp vf vm, cs = [.int .i64 x.rt.foot, vp, vf, .int .u8 x.ph, .int .i64 x.train, .bool x.been, .int .i64 x.count, vm, .int .i64 x.freed] ∧ Items w vp x.rt.path ∧ Items w vf x.rt.flank ∧ Bools w vm x.marked
theorem CPRt.keep {w w' : World} {x : PRt} {cs : List Value} (h : CPRt w x cs) (k : Keeps 196 w w') (k1 : Keeps 4 w w') : CPRt w' x cs := by
  obtain ⟨vp, vf, vm, e, a, b, c⟩ := h
  exact ⟨vp, vf, vm, e, a.keep k, b.keep k, c.keep k1⟩
def PRts (w : World) (v : Value) (l : List PRt) : Prop := SlAt 126 9 CPRt w v l
theorem PRts.keep {w w' : World} {v : Value} {l : List PRt} (h : PRts w v l) (k : Keeps 126 w w') (k1 : Keeps 196 w w') (k2 : Keeps 4 w w') : PRts w' v l := SlAt.keep h k (fun _ _ h => h.keep k1 k2)

def PBoxAt (w : World) (g : Nat) (B : PBx) : Prop := ∃ vs vr vt vl vw va vq,
  w.heap[g]? = some (.cells #[.int .i64 B.L.T, .int .i64 B.L.D, .int .i64 B.L.Q, vs, vr, vt, vl, vw, va, vq] 87 (0, 0)) ∧
  CLay w (.agg #[.int .i64 B.L.T, .int .i64 B.L.D, .int .i64 B.L.Q, vs, vr, vt]) B.L ∧ PRts w vl B.rts ∧ PSws w vw B.sws ∧ Ints w va B.sta ∧ Ints w vq B.waits
theorem PBoxAt.below {w w' : World} {g : Nat} {B : PBx} (h : PBoxAt w g B) (k : Below w.heap.size w w') : PBoxAt w' g B := by
  obtain ⟨vs, vr, vt, vl, vw, va, vq, e, h1, h2, h3, h4, h5⟩ := h
  have kk := fun e => Keeps.below (e := e) k
  exact ⟨vs, vr, vt, vl, vw, va, vq, (k.block g (blk_lt e)).trans e, h1.below k, h2.keep (kk _) (kk _) (kk _), h3.keep (kk _), h4.keep (kk _), h5.keep (kk _)⟩
theorem box10 {w : World} {g : Nat} {c0 c1 c2 c3 c4 c5 c6 c7 c8 c9 : Value} {e : TypeId} (h : w.heap[g]? = some (.cells #[c0, c1, c2, c3, c4, c5, c6, c7, c8, c9] e (0, 0))) :
    (w.cell? ⟨g, 0, none⟩ = some c0 ∧ w.cell? ⟨g, 1, none⟩ = some c1 ∧ w.cell? ⟨g, 2, none⟩ = some c2 ∧ w.cell? ⟨g, 3, none⟩ = some c3 ∧ w.cell? ⟨g, 4, none⟩ = some c4 ∧ w.cell? ⟨g, 5, none⟩ = some c5 ∧
      w.cell? ⟨g, 6, none⟩ = some c6 ∧ w.cell? ⟨g, 7, none⟩ = some c7 ∧ w.cell? ⟨g, 8, none⟩ = some c8 ∧ w.cell? ⟨g, 9, none⟩ = some c9) ∧
    (w.frozen? ⟨g, 6, none⟩ = false ∧ w.frozen? ⟨g, 7, none⟩ = false ∧ w.frozen? ⟨g, 8, none⟩ = false ∧ w.frozen? ⟨g, 9, none⟩ = false) ∧ g < w.heap.size :=
  ⟨⟨blk_cell0 h 0, blk_cell0 h 1, blk_cell0 h 2, blk_cell0 h 3, blk_cell0 h 4, blk_cell0 h 5, blk_cell0 h 6, blk_cell0 h 7, blk_cell0 h 8, blk_cell0 h 9⟩,
   ⟨blk_free0 h 6, blk_free0 h 7, blk_free0 h 8, blk_free0 h 9⟩, blk_lt h⟩

/-- a slice of bytes as a text. -/
theorem byts_str {w : World} {v : Value} {l : List Nat} (h : Byts w v l) : (convert 75 9 v).run Tryz.prog w = .ok (.string (natsStr l)) w := by
  obtain ⟨ao, cap, rfl, -, -, h3⟩ := h
  have e : natsStr l = strOfNums (l.map Int.ofNat) := by simp [natsStr, strOfNums]
  rcases h3 with h3 | ⟨g, off, cur, fr, rfl, hg, hc⟩
  · subst h3
    have := @run_convert_bytes_nil Tryz.prog
    first
      | (cases ao with
        | none => exact this w _ _ Tryz.underlying75 Tryz.underlying5 _ _ _ Tryz.underlying9
        | some a => 
          have := run_convert_bytes_string (P := Tryz.prog) w 75 9 5 (some a) 0 cap Tryz.underlying75 Tryz.underlying5 Tryz.underlying9
          rw [show ([] : List Nat).length = 0 from rfl, this, run_bytesToString w a 0 cap [] (by simpa using run_loadCells_list (P := Tryz.prog) w a [] (by simp))]
          rfl)
  · rw [e]
    refine run_convert_bytes_arg (P := Tryz.prog) w _ _ Tryz.underlying75 Tryz.underlying5 g off l.length cap _ (by simp) (fun i hi => ?_) _ Tryz.underlying9
    obtain ⟨cs, -, hC, hcs⟩ := hc i hi
    have := hcs 0 (by omega)
    unfold CByte at hC
    subst hC
    rw [cell_of_block hg]
    simp at this
    rw [this]
    simp [hi]

def PRt.lockB (x : PRt) (s : Nat) : Bool := x.ph != 46 && ((secs x.rt.path).drop x.freed).contains s
def PBx.lockB (B : PBx) (s r : Nat) : Bool := (B.rts.getD r (PRt.new Rt0)).lockB s
def PBx.lockedBy (B : PBx) (s : Nat) : Option Nat := (List.range B.rts.length).find? (B.lockB s)
def PBx.locksT (B : PBx) : List Nat := (List.range B.L.sw.length).map (fun s => lockC (B.lockedBy s))
def PBx.phasesT (B : PBx) : List Nat := B.rts.map (·.ph)
def PSw.tell (x : PSw) : Nat := if x.failed then 120 else x.wanted
def PBx.swT (B : PBx) (s : Nat) : List Nat := if B.L.sw.getD s false then [(B.sws.getD s PSw.new).tell] else []
def PBx.switchesT (B : PBx) : List Nat := (List.range B.sws.length).flatMap B.swT
def PBx.stateT (B : PBx) : List Nat := B.sta.map (48 + ·)

set_option maxHeartbeats 400000 in
theorem isSet_at (g o ph : Nat) (w : World) (h : w.cell? ⟨g, o + 3, none⟩ = some (.int .u8 ph)) :
    Calls Tryz.prog 121 #[.pointer (some ⟨g, o, none⟩)] w fun e w' => e = .returned (.bool (ph != 46)) ∧ w' = w := by
  have hx : ((ph : Int) != 46) = (ph != 46) := by
    rw [Bool.eq_iff_iff]; simp; omega
  go_enter Tryz.func121, Tryz.ntmps121
  go_wp2
  go_ret
  exact ⟨rfl, rfl⟩

set_option maxHeartbeats 1000000 in
theorem locks_at (g o : Nat) (x : PRt) (cs : List Value) (s : Nat) (w : World) (hg : g < w.heap.size) (hc : ∀ j, j < 9 → w.cell? ⟨g, o + j, none⟩ = cs[j]?) (hC : CPRt w x cs) (_hf : x.freed ≤ 1000) :
    Calls Tryz.prog 140 #[.pointer (some ⟨g, o, none⟩), .int .i64 s] w fun e w' => e = .returned (.bool (x.lockB s)) ∧ Below w.heap.size w w' := by
  obtain ⟨vp, vf, vm, rfl, hP, -, -⟩ := hC
  have c1 := hc 1 (by omega)
  have c3 := hc 3 (by omega)
  have c6 := hc 8 (by omega)
  simp at c1 c3 c6
  have HS := hide (isSet_at g o x.ph w c3)
  unfold PRt.lockB
  obtain ⟨ap, cp, rfl, hpl, hmp, p3⟩ := SlAt.open hP
  unfold maxLen at hmp
  obtain ⟨Z, hZ⟩ : ∃ Z, Z = (x.ph != 46 && ((secs x.rt.path).drop x.freed).contains s) := ⟨_, rfl⟩
  rw [← hZ]
  have HZ := hide hZ
  have hcd := hide (contains_drop (secs x.rt.path) x.freed s)
  have HSL := hide (show (secs x.rt.path).length = x.rt.path.length by simp [secs])
  have HSG := hide (show ∀ k (h : k < x.rt.path.length) (h' : k < (secs x.rt.path).length), (secs x.rt.path)[k] = x.rt.path[k].1 by intro k h h'; simp [secs])
  generalize x.rt.path = P at *
  generalize x.freed = fr at *
  clear hc hP hZ
  by_cases hph : x.ph = 46
  · have b0 : (x.ph != 46) = false := by simp [hph]
    have HZ0 := hide (show Z = false by rw [unhide HZ, b0]; rfl)
    rw [b0] at HS
    generalize x.ph = ph at *
    clear p3 HZ
    go_enter Tryz.func140, Tryz.ntmps140
    go_wp2_with fail
    refine (unhide HS).mono ?_
    rintro e w1 ⟨rfl, rfl⟩
    go_wp2
    go_ret
    exact ⟨ret_bool (unhide HZ0).symm, Below.refl _ _⟩
  · have b0 : (x.ph != 46) = true := by simp [hph]
    have HZ0 := hide (show Z = ((secs P).drop fr).contains s by rw [unhide HZ, b0]; rfl)
    rw [b0] at HS
    generalize x.ph = ph at *
    clear HZ
    go_enter Tryz.func140, Tryz.ntmps140
    go_wp2_with fail
    refine (unhide HS).mono ?_
    rintro e w1 ⟨rfl, rfl⟩
    go_wp2
    go_loopw [16] (fun i wr => ∃ k : Nat, i = .int .i64 k ∧ k ≤ P.length ∧ (∀ j (h : j < P.length), fr ≤ j → j < k → P[j].1 ≠ s) ∧ Below w1.heap.size w1 wr) (fun i _ => P.length - (intOf i).toNat)
    case atStart => exact ⟨0, rfl, Nat.zero_le _, fun j h h1 h2 => by omega, Below.refl _ _⟩
    case round =>
      obtain ⟨k, rfl, hk, hno, hb⟩ := hrel
      have HNO := hide hno
      have HB := hide hb
      have hbs := hb.size
      clear hno
      by_cases hlt : k < P.length
      · obtain ⟨gp, op, hap, hgp, csp, -, hCp, hcp⟩ := p3 k hlt
        subst hap
        unfold CItem itemV at hCp
        subst hCp
        have x0 := hcp 0 (by omega)
        have x1 := hcp 1 (by omega)
        rw [← hb.cell (p := ⟨gp, _, none⟩) hgp] at x0 x1
        rw [← hb.cell (p := ⟨g, _, none⟩) hg] at c6
        simp at x0 x1
        have l1 : (k : Int) < P.length := by omega
        have hgw : g < wr.heap.size := by omega
        have hgpw : gp < wr.heap.size := by omega
        have HNN := hide (show (fr ≤ k → P[k].1 ≠ s) → ∀ j (h : j < P.length), fr ≤ j → j < k + 1 → P[j].1 ≠ s by
          intro hx j h h1 h2
          by_cases hj : j < k
          · exact unhide HNO j h h1 hj
          · obtain rfl : j = k := by omega
            exact hx h1)
        have HFD := hide (show fr ≤ k → P[k].1 = s → Z = true by
          intro h0 h1
          rw [unhide HZ0, (unhide hcd).2 ⟨k, by rw [unhide HSL]; exact hlt, h0, by rw [unhide HSG k hlt]; exact h1⟩])
        clear hcp p3 hb
        generalize P[k].1 = y at *
        generalize P[k].2 = y2 at *
        by_cases hfr : fr ≤ k
        · have b1 : decide ((fr : Int) ≤ k) = true := by simp; omega
          by_cases hys : y = s
          · have b2 : ((y : Int) == s) = true := by simp [hys]
            have HZ2 := hide (unhide HFD hfr hys)
            go_wp2
            go_ret
            exact ⟨ret_bool (unhide HZ2).symm, (unhide HB).alloc hbs _⟩
          · have b2 : ((y : Int) == s) = false := by simp; omega
            go_wp2
            exact ⟨⟨k + 1, by go_num, by omega, unhide HNN (fun _ => hys), (unhide HB).alloc hbs _⟩, by simp [intOf]; omega⟩
        · have b1 : decide ((fr : Int) ≤ k) = false := by simp; omega
          go_wp2
          exact ⟨⟨k + 1, by go_num, by omega, unhide HNN (fun h => absurd h hfr), (unhide HB).alloc hbs _⟩, by simp [intOf]; omega⟩
      · have HZ2 := hide (show Z = false by
          rw [unhide HZ0, Bool.eq_false_iff]
          intro h
          obtain ⟨j, hj, h1, h2⟩ := (unhide hcd).1 h
          have hj' : j < P.length := by rw [← unhide HSL]; exact hj
          rw [unhide HSG j hj'] at h2
          exact unhide HNO j hj' h1 (by omega) h2)
        have l1 : (P.length : Int) ≤ k := by omega
        clear p3 hb
        go_wp2
        go_ret
        exact ⟨ret_bool (unhide HZ2).symm, unhide HB⟩
end Go.Proofs.YtkbpocecbcaiiaaGreatDoor

/-
  THE WALKS OVER rails.Box: lockedBy, Locks, Phases, Switches, At, Queue.
-/
namespace Go.Proofs.YtkbpocecbcaiiaaGreatDoor
open Go.RowKit

def optN : Option Nat → Nat
  | none => 0
  | some r => r

set_option maxHeartbeats 1000000 in
theorem lockedBy_any (g : Nat) (B : PBx) (s : Nat) (w : World) (h : PBoxAt w g B) (hr : B.rts.length ≤ 1000) (hf : ∀ x, x ∈ B.rts → x.freed ≤ 1000) :
    Calls Tryz.prog 96 #[.pointer (some ⟨g, 0, none⟩), .int .i64 s] w fun e w' => e = .returned (.tuple #[.int .i64 (optN (B.lockedBy s)), .bool (B.lockedBy s).isSome]) ∧ Below w.heap.size w w' := by
  obtain ⟨vs, vr, vt, vl, vw, va, vq, hB, -, hL, -⟩ := h
  obtain ⟨al, cl, rfl, -, hml, l3⟩ := SlAt.open hL
  obtain ⟨⟨-, -, -, -, -, -, q6, -⟩, -, qg⟩ := box10 hB
  have HK := hide (show ∀ k (h : k < B.rts.length), B.lockB s k = B.rts[k].lockB s by
    intro k h
    unfold PBx.lockB
    rw [List.getD_eq_getElem?_getD, List.getElem?_eq_getElem h]; rfl)
  unfold PBx.lockedBy
  generalize hlb : B.lockB s = f at *
  clear hlb
  generalize B.rts = ls at *
  unfold maxLen at hml
  obtain ⟨Z, hZ⟩ : ∃ Z, Z = (List.range ls.length).find? f := ⟨_, rfl⟩
  rw [← hZ]
  have HZ := hide hZ
  clear hL hB hZ
  have HF := hide hf
  clear hf
  go_enter Tryz.func96, Tryz.ntmps96
  go_wp2
  go_loopw [12] (fun i wr => ∃ k : Nat, k ≤ ls.length ∧ i = .int .i64 k ∧ (∀ j, j < k → f j = false) ∧ Below w.heap.size w wr) (fun i _ => ls.length - (intOf i).toNat)
  case atStart => exact ⟨0, Nat.zero_le _, rfl, fun j h => by omega, Below.refl _ _⟩
  case round =>
    obtain ⟨k, hk, rfl, hno, hb⟩ := hrel
    have HNO := hide hno
    have HB := hide hb
    have hbs := hb.size
    rw [← hb.cell (p := ⟨g, 6, none⟩) qg] at q6
    clear hno
    by_cases hlt : k < ls.length
    · obtain ⟨gl, ol, hal, hgl, cs, -, hC, hc⟩ := l3 k hlt
      subst hal
      have HLK := hide (locks_at gl (ol + k * 9) ls[k] cs s wr (by omega) (fun j hj => by rw [hb.cell (p := ⟨gl, _, none⟩) hgl]; exact hc j hj) (hC.keep (Keeps.below hb) (Keeps.below hb)) (unhide HF _ (List.getElem_mem hlt)))
      rw [← unhide HK k hlt] at HLK
      have l1 : (k : Int) < ls.length := by omega
      clear hc hC l3 hb
      go_wp2_with fail
      refine (unhide HLK).mono ?_
      rintro e w1 ⟨rfl, hb1⟩
      have HB1 := hide ((unhide HB).trans (hb1.mono hbs))
      cases hfk : f k with
      | true =>
        have HZ2 := hide (show Z = some k by rw [unhide HZ, rfind_some f _ k hlt (unhide HNO) hfk])
        clear hb1 hfk
        go_wp2
        go_ret2
        exact ⟨by rw [unhide HZ2]; rfl, unhide HB1⟩
      | false =>
        have HNN := hide (show ∀ j, j < k + 1 → f j = false by
          intro j hj
          by_cases hj' : j < k
          · exact unhide HNO j hj'
          · obtain rfl : j = k := by omega
            exact hfk)
        clear hb1 hfk
        go_wp2
        exact ⟨⟨k + 1, by omega, by go_num, unhide HNN, unhide HB1⟩, by simp [intOf]; omega⟩
    · obtain rfl : k = ls.length := by omega
      have HZ2 := hide (show Z = none by rw [unhide HZ, rfind_none f _ (unhide HNO)])
      clear l3 hb
      go_wp2
      go_ret2
      exact ⟨by rw [unhide HZ2]; rfl, unhide HB⟩

set_option maxHeartbeats 1000000 in
theorem pLocks_any (g : Nat) (B : PBx) (w : World) (h : PBoxAt w g B) (hs : B.L.sw.length ≤ 1000) (hr : B.rts.length ≤ 100) (hf : ∀ x, x ∈ B.rts → x.freed ≤ 1000) :
    Calls Tryz.prog 46 #[.pointer (some ⟨g, 0, none⟩)] w fun e w' => e = .returned (.string (natsStr B.locksT)) ∧ Below w.heap.size w w' := by
  have HLB := hide (fun (s : Nat) (wz : World) (hz : Below w.heap.size w wz) => lockedBy_any g B s wz (h.below hz) (by omega) hf)
  have HR := hide (show ∀ s r, B.lockedBy s = some r → r < 100 by
    intro s r he
    unfold PBx.lockedBy at he
    have := List.mem_range.1 (List.mem_of_find?_eq_some he)
    omega)
  obtain ⟨vs, vr, vt, vl, vw, va, vq, hB, ⟨_, _, _, he, hS, -, -⟩, -⟩ := h
  simp only [Value.agg.injEq, Array.mk.injEq, List.cons.injEq, and_true, true_and] at he
  obtain ⟨rfl, rfl, rfl⟩ := he
  obtain ⟨ao, cap, rfl, -, hm, -⟩ := SlAt.open hS
  obtain ⟨⟨-, -, -, q3, -⟩, -, qg⟩ := box10 hB
  unfold PBx.locksT
  generalize B.lockedBy = f at *
  generalize B.L.sw = l at *
  unfold maxLen at hm
  clear hS hB hf
  obtain ⟨i0, hi0⟩ := info_parts Tryz.infoByte
  have HIB := hide hi0
  clear hi0
  go_enter Tryz.func46, Tryz.ntmps46
  go_wp2
  go_loopw [3, 13] (fun d i wr => ∃ k : Nat, k ≤ l.length ∧ i = .int .i64 k ∧ wr.ownsRow w.heap.size 5 1 d k (bytsV ((List.range k).map (fun s => lockC (f s)))) ∧ Below w.heap.size w wr) (fun _ i _ => l.length - (intOf i).toNat)
  case atStart => exact ⟨0, Nat.zero_le _, rfl, World.ownsRow_nil _ _ _ _, Below.refl _ _⟩
  case round =>
    obtain ⟨k, hk, rfl, hown, hb⟩ := hrel
    have HB := hide hb
    have hbs := hb.size
    by_cases hlt : k < l.length
    · have l1 : (k : Int) < l.length := by omega
      obtain ⟨ah, ch, hvh⟩ := slice_of_own hown
      subst hvh
      clear hb
      go_wp2_with fail
      refine (unhide HLB k wr (unhide HB)).mono ?_
      rintro e w1 ⟨rfl, hb1⟩
      have hown1 := ownsRow_below hown hb1
      have hb2 := (unhide HB).trans (hb1.mono hbs)
      have hbs2 := hb2.size
      have HB2 := hide hb2
      have HRK := hide (unhide HR k)
      have HSN := hide (show bytsV ((List.range (k + 1)).map (fun s => lockC (f s))) = bytsV ((List.range k).map (fun s => lockC (f s))) ++ [.int .u8 (lockC (f k) : Nat)] by
        rw [List.range_succ, List.map_append]; exact bytsV_snoc _ _)
      clear hb1 hown hb2
      generalize f k = o at *
      cases o with
      | none =>
        go_wp2_with (at_builtin; refine wpList_append_own _ rfl _ _ 75 rfl w.heap.size 5 i0 (.int .u8 0) 1 1 Tryz.underlying75 (unhide HIB).1 (unhide HIB).2.1 (unhide HIB).2.2.1 (unhide HIB).2.2.2 rfl (by decide) _ _ _ rfl (hown1.alloc _) ⟨w1.heap.size, 0, none⟩ 1 1 [.int .u8 46] rfl rfl (one_new _ _ _) (one_cell1 rfl) (by unfold maxLen; omega) (by omega) (by simp; omega) ?_; intro v' w2 hown2 hgrow _)
        exact ⟨⟨k + 1, by omega, by go_num, by rw [unhide HSN]; exact hown2, grow_below (unhide HB2) hbs2 hown1 hgrow⟩, by simp [intOf]; omega⟩
      | some r =>
        have hr1 := unhide HRK r rfl
        have u1 := wrap8 (r : Int) (by omega) (by omega)
        have u2 := wrap8 (65 + (r : Int)) (by omega) (by omega)
        simp only [optN, Option.isSome]
        go_wp2_with (at_builtin; refine wpList_append_own _ rfl _ _ 75 rfl w.heap.size 5 i0 (.int .u8 0) 1 1 Tryz.underlying75 (unhide HIB).1 (unhide HIB).2.1 (unhide HIB).2.2.1 (unhide HIB).2.2.2 rfl (by decide) _ _ _ rfl (hown1.alloc _) ⟨w1.heap.size, 0, none⟩ 1 1 [.int .u8 (65 + (r : Int))] rfl rfl (one_new _ _ _) (one_cell1 rfl) (by unfold maxLen; omega) (by omega) (by simp; omega) ?_; intro v' w2 hown2 hgrow _)
        exact ⟨⟨k + 1, by omega, by go_num, by rw [unhide HSN]; simpa [lockC] using hown2, grow_below (unhide HB2) hbs2 hown1 hgrow⟩, by simp [intOf]; omega⟩
    · obtain rfl : k = l.length := by omega
      have hcv := byts_str (Byts.ofOwn hown (by simp))
      obtain ⟨ah, ch, hvh⟩ := slice_of_own hown
      subst hvh
      clear hown hb
      go_wp2
      go_ret
      exact ⟨rfl, unhide HB⟩

set_option maxHeartbeats 1000000 in
theorem pPhases_any (g : Nat) (B : PBx) (w : World) (h : PBoxAt w g B) (hr : B.rts.length ≤ 1000) :
    Calls Tryz.prog 47 #[.pointer (some ⟨g, 0, none⟩)] w fun e w' => e = .returned (.string (natsStr B.phasesT)) ∧ Below w.heap.size w w' := by
  obtain ⟨vs, vr, vt, vl, vw, va, vq, hB, -, hL, -⟩ := h
  obtain ⟨al, cl, rfl, -, hml, l3⟩ := SlAt.open hL
  obtain ⟨⟨-, -, -, -, -, -, q6, -⟩, -, qg⟩ := box10 hB
  unfold PBx.phasesT
  generalize B.rts = l at *
  unfold maxLen at hml
  clear hL hB
  obtain ⟨i0, hi0⟩ := info_parts Tryz.infoByte
  have HIB := hide hi0
  clear hi0
  go_enter Tryz.func47, Tryz.ntmps47
  go_wp2
  go_loopw [3, 11] (fun d i wr => ∃ k : Nat, k ≤ l.length ∧ i = .int .i64 k ∧ wr.ownsRow w.heap.size 5 1 d k (bytsV ((l.take k).map (·.ph))) ∧ Below w.heap.size w wr) (fun _ i _ => l.length - (intOf i).toNat)
  case atStart => exact ⟨0, Nat.zero_le _, rfl, World.ownsRow_nil _ _ _ _, Below.refl _ _⟩
  case round =>
    obtain ⟨k, hk, rfl, hown, hb⟩ := hrel
    have HB := hide hb
    have hbs := hb.size
    by_cases hlt : k < l.length
    · have l1 : (k : Int) < l.length := by omega
      obtain ⟨ah, ch, hvh⟩ := slice_of_own hown
      subst hvh
      obtain ⟨gl, ol, hal, hgl, cs, -, hC, hc⟩ := l3 k hlt
      subst hal
      obtain ⟨vp, vf, vm, hcs, p1, p2, p3⟩ := hC
      subst hcs
      obtain ⟨a1, d1, rfl, -⟩ := SlAt.open p1
      obtain ⟨a2, d2, rfl, -⟩ := SlAt.open p2
      obtain ⟨a3, d3, rfl, -⟩ := SlAt.open p3
      have c0 := hc 0 (by omega)
      have c1 := hc 1 (by omega)
      have c2 := hc 2 (by omega)
      have c3 := hc 3 (by omega)
      have c4 := hc 4 (by omega)
      have c5 := hc 5 (by omega)
      have c6 := hc 6 (by omega)
      have c7 := hc 7 (by omega)
      have c8 := hc 8 (by omega)
      rw [← hb.cell (p := ⟨gl, _, none⟩) hgl] at c0 c1 c2 c3 c4 c5 c6 c7 c8
      simp at c0 c1 c2 c3 c4 c5 c6 c7 c8
      have HSN := hide (show bytsV ((l.take (k + 1)).map (·.ph)) = bytsV ((l.take k).map (·.ph)) ++ [.int .u8 (l[k].ph : Nat)] by
        rw [map_take_succ _ _ _ hlt]; exact bytsV_snoc _ _)
      clear hb hc p1 p2 p3 l3
      generalize l[k].ph = ph at *
      go_wp2_with (at_builtin; refine wpList_append_own _ rfl _ _ 75 rfl w.heap.size 5 i0 (.int .u8 0) 1 1 Tryz.underlying75 (unhide HIB).1 (unhide HIB).2.1 (unhide HIB).2.2.1 (unhide HIB).2.2.2 rfl (by decide) _ _ _ rfl ((hown.alloc _).alloc _) ⟨wr.heap.size + 1, 0, none⟩ 1 1 [.int .u8 (ph : Nat)] rfl rfl (cells_new_at _ [.int .u8 (ph : Nat)] _ _ (by simp)) (one_cell1 rfl) (by unfold maxLen; omega) (by omega) (by simp; omega) ?_; intro v' w2 hown2 hgrow _)
      exact ⟨⟨k + 1, by omega, by go_num, by rw [unhide HSN]; exact hown2, grow_below ((unhide HB).alloc hbs _) (by simp; omega) (hown.alloc _) hgrow⟩, by simp [intOf]; omega⟩
    · obtain rfl : k = l.length := by omega
      rw [List.take_length] at hown
      have hcv := byts_str (Byts.ofOwn hown (by simp))
      obtain ⟨ah, ch, hvh⟩ := slice_of_own hown
      subst hvh
      clear hown hb l3
      go_wp2
      go_ret
      exact ⟨rfl, unhide HB⟩

set_option maxHeartbeats 1000000 in
theorem pSwitches_any (g : Nat) (B : PBx) (w : World) (h : PBoxAt w g B) (hl : B.sws.length ≤ 1000) :
    Calls Tryz.prog 48 #[.pointer (some ⟨g, 0, none⟩)] w fun e w' => e = .returned (.string (natsStr B.switchesT)) ∧ Below w.heap.size w w' := by
  obtain ⟨vs, vr, vt, vl, vw, va, vq, hB, hCL, -, hW, -⟩ := h
  have HHS := hide (fun (s : Nat) (wz : World) (hz : Below w.heap.size w wz) => HasSwitch_any _ B.L s wz (hCL.below hz))
  obtain ⟨_, _, _, he, hS, hR, hT⟩ := hCL
  simp only [Value.agg.injEq, Array.mk.injEq, List.cons.injEq, and_true, true_and] at he
  obtain ⟨rfl, rfl, rfl⟩ := he
  obtain ⟨a1, d1, rfl, -⟩ := SlAt.open hS
  obtain ⟨a2, d2, rfl, -⟩ := SlAt.open hR
  obtain ⟨a3, d3, rfl, -⟩ := SlAt.open hT
  obtain ⟨aw, cw, rfl, -, hmw, h3⟩ := SlAt.open hW
  obtain ⟨⟨q0, q1, q2, q3, q4, q5, -, q7, -⟩, -, qg⟩ := box10 hB
  have HT := hide (show ∀ k (h : k < B.sws.length), B.swT k = if B.L.sw.getD k false then [B.sws[k].tell] else [] by
    intro k h
    unfold PBx.swT
    rw [show B.sws.getD k PSw.new = B.sws[k] by rw [List.getD_eq_getElem?_getD, List.getElem?_eq_getElem h]; rfl])
  have hle := flat_le B.swT (by intro s; unfold PBx.swT; split <;> simp)
  unfold PBx.switchesT
  generalize B.swT = f at *
  generalize B.sws = l at *
  unfold maxLen at hmw
  have HLE := hide hle
  clear hS hR hT hW hB hle
  obtain ⟨i0, hi0⟩ := info_parts Tryz.infoByte
  have HIB := hide hi0
  clear hi0
  go_enter Tryz.func48, Tryz.ntmps48
  go_wp2
  go_loopw [3, 11] (fun d i wr => ∃ k n : Nat, k ≤ l.length ∧ i = .int .i64 k ∧ n = ((List.range k).flatMap f).length ∧ wr.ownsRow w.heap.size 5 1 d n (bytsV ((List.range k).flatMap f)) ∧ Below w.heap.size w wr) (fun _ i _ => l.length - (intOf i).toNat)
  case atStart => exact ⟨0, 0, Nat.zero_le _, rfl, rfl, World.ownsRow_nil _ _ _ _, Below.refl _ _⟩
  case round =>
    obtain ⟨k, n, hk, rfl, hn, hown, hb⟩ := hrel
    have HB := hide hb
    have hbs := hb.size
    have hnk := unhide HLE k
    rw [← hn] at hnk
    have HN := hide hn
    clear hn
    by_cases hlt : k < l.length
    · have l1 : (k : Int) < l.length := by omega
      obtain ⟨ah, ch, hvh⟩ := slice_of_own hown
      subst hvh
      obtain ⟨gl, ol, hal, hgl, cs, -, hC, hc⟩ := h3 k hlt
      subst hal
      unfold CPSw swV at hC
      subst hC
      have x0 := hc 0 (by omega)
      have x1 := hc 1 (by omega)
      have x2 := hc 2 (by omega)
      rw [← hb.cell (p := ⟨gl, _, none⟩) hgl] at x0 x1 x2
      simp at x0 x1 x2
      rw [← hb.cell (p := ⟨g, _, none⟩) qg] at q0 q1 q2 q3 q4 q5
      have HSN := hide (swT_snoc f k)
      rw [unhide HT k hlt] at HSN
      have HTL := hide (show l[k].tell = if l[k].failed then 120 else l[k].wanted from rfl)
      clear hb hc h3
      generalize l[k].tell = tl at *
      generalize l[k].failed = fl at *
      generalize l[k].wanted = x at *
      generalize l[k].late = la at *
      have hglw : gl < wr.heap.size := by omega
      have hgw0 : g < wr.heap.size := by omega
      go_wp2_with fail
      refine (unhide HHS k _ ((unhide HB).alloc hbs _)).mono ?_
      rintro e w1 ⟨rfl, hb1⟩
      have hx : w1.heap[wr.heap.size]? = some (.cells #[.int .u8 x, .int .i64 la, .bool fl] 121 (0, 0)) := (hb1.block _ (by simp)).trans (heap_alloc_new _ _)
      obtain ⟨⟨z0, z1, z2⟩, -, qz⟩ := tri0 hx
      have hown1 := ownsRow_below (hown.alloc _) hb1
      have hb2 := ((unhide HB).alloc hbs _).trans (hb1.mono (by simp; omega))
      have hbs2 := hb2.size
      have HB2 := hide hb2
      clear hb1 hown hb2 q0 q1 q2 q3 q4 q5 x0 x1 x2 hx
      generalize B.L.sw.getD k false = b at *
      cases b with
      | false =>
        go_wp2
        exact ⟨⟨k + 1, n, by omega, by go_num, by rw [unhide HSN]; simpa using unhide HN, by rw [unhide HSN]; simpa using hown1, unhide HB2⟩, by simp [intOf]; omega⟩
      | true =>
        cases fl with
        | false =>
          have HTX := hide (show tl = x by rw [unhide HTL]; rfl)
          go_wp2_with (at_builtin; refine wpList_append_own _ rfl _ _ 75 rfl w.heap.size 5 i0 (.int .u8 0) 1 1 Tryz.underlying75 (unhide HIB).1 (unhide HIB).2.1 (unhide HIB).2.2.1 (unhide HIB).2.2.2 rfl (by decide) _ _ _ rfl (hown1.alloc _) ⟨w1.heap.size, 0, none⟩ 1 1 [.int .u8 (x : Nat)] rfl rfl (one_new _ _ _) (one_cell1 rfl) (by unfold maxLen; omega) (by omega) (by simp; omega) ?_; intro v' w2 hown2 hgrow _)
          exact ⟨⟨k + 1, n + 1, by omega, by go_num, by rw [unhide HSN]; simp [← unhide HN], by rw [unhide HSN, unhide HTX]; simpa [bytsV] using hown2, grow_below (unhide HB2) hbs2 hown1 hgrow⟩, by simp [intOf]; omega⟩
        | true =>
          have HTX := hide (show tl = 120 by rw [unhide HTL]; rfl)
          go_wp2_with (at_builtin; refine wpList_append_own _ rfl _ _ 75 rfl w.heap.size 5 i0 (.int .u8 0) 1 1 Tryz.underlying75 (unhide HIB).1 (unhide HIB).2.1 (unhide HIB).2.2.1 (unhide HIB).2.2.2 rfl (by decide) _ _ _ rfl (hown1.alloc _) ⟨w1.heap.size, 0, none⟩ 1 1 [.int .u8 120] rfl rfl (one_new _ _ _) (one_cell1 rfl) (by unfold maxLen; omega) (by omega) (by simp; omega) ?_; intro v' w2 hown2 hgrow _)
          exact ⟨⟨k + 1, n + 1, by omega, by go_num, by rw [unhide HSN]; simp [← unhide HN], by rw [unhide HSN, unhide HTX]; simpa [bytsV] using hown2, grow_below (unhide HB2) hbs2 hown1 hgrow⟩, by simp [intOf]; omega⟩
    · obtain rfl : k = l.length := by omega
      have hcv := byts_str (Byts.ofOwn hown (unhide HN))
      obtain ⟨ah, ch, hvh⟩ := slice_of_own hown
      subst hvh
      clear hown hb h3
      go_wp2
      go_ret
      exact ⟨rfl, unhide HB⟩

set_option maxHeartbeats 1000000 in
theorem pAt_any (g : Nat) (B : PBx) (w : World) (h : PBoxAt w g B) (hl : B.sta.length ≤ 1000) (h9 : ∀ t, t ∈ B.sta → t < 10) :
    Calls Tryz.prog 49 #[.pointer (some ⟨g, 0, none⟩)] w fun e w' => e = .returned (.string (natsStr B.stateT)) ∧ w' = w := by
  obtain ⟨vs, vr, vt, vl, vw, va, vq, hB, -, -, -, hI, -⟩ := h
  obtain ⟨ag, cg, rfl, h1, h2, h3⟩ := SlAt.open hI
  obtain ⟨⟨-, -, -, -, -, -, -, -, q8, -⟩, -, qg⟩ := box10 hB
  unfold PBx.stateT
  generalize B.sta = l at *
  unfold maxLen at h2
  have HT := hide h9
  clear hB hI h9
  go_enter Tryz.func49, Tryz.ntmps49
  go_wp2
  go_loopw [3, 11] (fun d i wr => ∃ k : Nat, k ≤ l.length ∧ i = .int .i64 k ∧ d = .string (natsStr ((l.take k).map (48 + ·))) ∧ wr = w) (fun _ i _ => l.length - (intOf i).toNat)
  case atStart => exact ⟨0, Nat.zero_le _, rfl, rfl, rfl⟩
  case round =>
    obtain ⟨k, hk, rfl, rfl, rfl⟩ := hrel
    have hsz := natsStr_size ((l.take k).map (48 + ·))
    rw [List.length_map, List.length_take, Nat.min_eq_left hk] at hsz
    obtain ⟨p, hp⟩ : ∃ p, p = natsStr ((l.take k).map (48 + ·)) := ⟨_, rfl⟩
    rw [← hp] at hsz ⊢
    have HP := hide hp
    clear hp
    by_cases hlt : k < l.length
    · obtain ⟨gl, off, hao, hg, cs, -, hC, hc⟩ := h3 k hlt
      subst hao
      unfold CInt at hC
      subst hC
      have hc0 := hc 0 (by omega)
      simp at hc0
      have h9 := unhide HT _ (List.getElem_mem hlt)
      have HS := hide (show natsStr ((l.take (k + 1)).map (48 + ·)) = p ++ ⟨#[UInt8.ofNat (48 + l[k])]⟩ by
        rw [unhide HP, map_take_succ _ _ _ hlt, natsStr_snoc])
      clear hc h3
      generalize l[k] = t at *
      go_wp2_with (go_at_call 97; refine (Itoa_any t _ h9).mono ?_; rintro e w' ⟨rfl, rfl⟩)
      exact ⟨⟨k + 1, by omega, by go_num, by first | (rw [unhide HS]; done) | (rw [unhide HS]; simp; done), by trivial⟩, by simp [intOf]; omega⟩
    · obtain rfl : k = l.length := by omega
      rw [List.take_length] at HP
      clear h3
      go_wp2
      go_ret
      exact ⟨by first | (rw [unhide HP]; done) | (rw [← unhide HP]; rfl), rfl⟩

set_option maxHeartbeats 400000 in
theorem pQueue_any (g : Nat) (B : PBx) (w : World) (h : PBoxAt w g B) (hl : B.waits.length ≤ 1000) (h9 : ∀ t, t ∈ B.waits → t < 9) :
    Calls Tryz.prog 50 #[.pointer (some ⟨g, 0, none⟩)] w fun e w' => e = .returned (.string (ordStr B.waits)) ∧ w' = w := by
  obtain ⟨vs, vr, vt, vl, vw, va, vq, hB, -, -, -, -, hI⟩ := h
  have H := hide (digits_any vq B.waits w hI h9 hl)
  obtain ⟨ag, cg, rfl, -⟩ := SlAt.open hI
  obtain ⟨⟨-, -, -, -, -, -, -, -, -, q9⟩, -, qg⟩ := box10 hB
  generalize B.waits = l at *
  clear hB hI h9
  go_enter Tryz.func50, Tryz.ntmps50
  go_wp2_with fail
  refine (unhide H).mono ?_
  rintro e w1 ⟨rfl, rfl⟩
  go_wp2
  go_ret
  exact ⟨rfl, rfl⟩
end Go.Proofs.YtkbpocecbcaiiaaGreatDoor

/-
  THE WALKS OVER railsref: overtaken.
-/
namespace Go.Proofs.YtkbpocecbcaiiaaGreatDoor
open Go.RowKit

def ovMarks (n : Nat) : List Bool := (List.replicate n false).set 0 true
def RBx.overtaken (C : RBx) (r : Nat) : RBx := { C with lines := C.lines.set r { C.line r with marks := ovMarks (C.L.rt r).path.length, ph := 116 } }

set_option maxRecDepth 100000 in
set_option maxHeartbeats 4000000 in
theorem rovertaken_any (R : Nat → Prop) (g : Nat) (C : RBx) (vh vr vt vl vw vf vd va vq : Value) (ms : List Value) (r : Nat) (w : World) (h : RM w R g C vh vr vt vl vw vf vd va vq ms)
    (hr : r < C.lines.length) (hl : C.lines.length ≤ C.L.rts.length) (hp : (C.L.rt r).path ≠ []) (hpl : (C.L.rt r).path.length ≤ 1000) :
    Calls Tryz.prog 147 #[.pointer (some ⟨g, 0, none⟩), .int .i64 r] w fun e w' => e = .returned (.tuple #[]) ∧ (∃ m, RM w' R g (C.overtaken r) vh vr vt vl vw vf vd va vq (ms.set r m) ∧ ∀ b, m.ownBlock = some b → w.heap.size ≤ b) ∧ Only (fun b => vl.ownBlock = some b) w w' := by
  have hrr : r < C.L.rts.length := by omega
  have hrm : r < ms.length := by rw [h.mlen]; exact hr
  have HRM := hide h
  obtain ⟨ar, cr, hvr, -, hmr, r3⟩ := SlAt.open (h.plan.2 w (fun _ _ => rfl)).2.1
  subst hvr
  obtain ⟨gr, or_, rfl, hgr, csr, -, hCr, hcr⟩ := r3 r hrr
  obtain ⟨vp, vs, vfl, vg, rfl, hP, -⟩ := hCr
  have d1 := hcr 1 (by omega)
  simp at d1
  obtain ⟨ap, cp, hvp, -, hmp, -⟩ := SlAt.open hP
  rw [secs_len] at hvp
  subst hvp
  obtain ⟨gl, cl, rfl, hl1, hl2, hgl⟩ := own_some h.lines (by omega)
  unfold maxLen at hl2 hmr hmp
  obtain ⟨⟨q3, q4, q5, q6, q7, q8, q9, q10, q11⟩, -, qg⟩ := box12 h.box
  rw [rt_eq _ _ hrr] at hp hpl
  have hpp : 0 < C.L.rts[r].path.length := List.length_pos_iff.2 hp
  have HRT := hide (rt_eq C.L r hrr)
  have HLN := hide (show C.line r = C.lines[r] from getD_at _ _ _ hr)
  have hlen := lnsV_len _ _ h.mlen
  have x3 : w.cell? ⟨gl, r * 6 + 3, none⟩ = some ms[r] := by
    rw [h.lines.cellAt (r * 6 + 3) (by omega), flatten_get _ 6 (lnsV_six _ _) r 3 (by omega) (by omega), lnsV_get _ _ r (by omega) hr hrm]; rfl
  have x0 : w.cell? ⟨gl, r * 6, none⟩ = some (.int .u8 C.lines[r].ph) := by
    have := h.lines.cellAt (r * 6 + 0) (by omega)
    rw [flatten_get _ 6 (lnsV_six _ _) r 0 (by omega) (by omega), lnsV_get _ _ r (by omega) hr hrm] at this
    exact this
  have z3 := h.lines.frozenAt (r * 6 + 3)
  have z0 := h.lines.frozenAt (r * 6)
  have HX := hide (And.intro hr hrm)
  obtain ⟨i3, hi3⟩ := info_parts Tryz.infoBool
  have hmk := fun (wz : World) => run_make (P := Tryz.prog) wz 49 4 i3 (.bool false) Tryz.underlying49 hi3.1 hi3.2.1 .i64 .i64 (C.L.rts[r].path.length : Int) (C.L.rts[r].path.length : Int) (by omega) (by omega) (by rw [hi3.2.2.2]; omega) (by omega)
  rw [hi3.2.2.1] at hmk
  simp only [Int.toNat_natCast, Nat.mul_one] at hmk
  have m1 : (r : Int) < C.L.rts.length := by omega
  have m2 : (r : Int) < C.lines.length := by omega
  have m3 : (0 : Int) < C.L.rts[r].path.length := by omega
  have HPP := hide (And.intro hpp hpl)
  have n1 : gl ≠ w.heap.size := by omega
  have n2 : g ≠ w.heap.size := by omega
  obtain ⟨m0, hm0⟩ : ∃ m0, ms[r] = m0 := ⟨_, rfl⟩
  rw [hm0] at x3
  generalize C.lines[r].ph = ph0 at *
  clear hi3 r3 hcr hP hp hlen hm0 h
  generalize hnp : C.L.rts[r].path.length = np at *
  have HNP := hide hnp
  clear hnp
  have hnp0 := (unhide HPP).1
  have hmc : (madeCells #[Value.bool false] np)[0]? = some (.bool false) := by
    have e : (madeCells #[Value.bool false] np)[0]? = (madeCells #[Value.bool false] np).toList[0]? := by simp
    rw [e, toList_madeCells_one, List.getElem?_replicate, if_pos hnp0]
  have hms : (madeCells #[Value.bool false] np).size = np := by
    have e := congrArg List.length (toList_madeCells_one (Value.bool false) np)
    simpa using e
  go_enter Tryz.func147, Tryz.ntmps147
  go_wp2
  refine bodyPost_end (v := .tuple #[]) (by simp [results, Tryz.results147, go_sem]) rfl ?_
  have h := unhide HRM
  have HT := hide (show ((madeCells #[Value.bool false] np).setIfInBounds 0 (Value.bool true)).toList = boolsV (ovMarks np) by
    rw [Array.toList_setIfInBounds, toList_madeCells_one]
    unfold ovMarks
    rw [← boolsV_set]
    simp [boolsV])
  obtain ⟨mc, hmcd⟩ : ∃ mc, (madeCells #[Value.bool false] np).setIfInBounds 0 (Value.bool true) = mc := ⟨_, rfl⟩
  rw [hmcd] at HT ⊢
  have hmsz : mc.size = np := by rw [← hmcd]; simpa using hms
  have hlo : (ovMarks np).length = np := by simp [ovMarks]
  have hown := World.ownsRow_lit (base := 0) (e := 4) (size := 1) w mc np (Nat.zero_le _) (by have := (unhide HPP).2; unfold maxLen; omega) (by omega)
  rw [unhide HT] at hown
  have h1 := h.below (below_alloc w (.cells mc 4))
  have h2 := h1.setMk rfl r hr hrm (.slice (some ⟨w.heap.size, 0, none⟩) np np) (ovMarks np) (by rw [hlo]; exact hown) (fun b hb => by
    have hbw : b = w.heap.size := by simpa [Value.ownBlock] using hb.symm
    subst hbw
    refine ⟨fun hR => ?_, fun e => ?_, fun i hi _ e => ?_⟩
    · have := h.plan.1 _ hR; omega
    · have := (h.failed.lt _ e).2; omega
    · have := ((h.marks i hi (by rw [← h.mlen]; exact hi)).lt _ e).2; omega)
  have hr2 : r < (C.lines.set r { C.lines[r] with marks := ovMarks np }).length := by simpa using hr
  have h3 := h2.setLn (by simp) r hr2 (by simpa using hrm) { (C.lines.set r { C.lines[r] with marks := ovMarks np })[r]'hr2 with ph := 116 } 0 (.int .u8 116) (by omega) rfl rfl
  have ew : (((w.alloc (.cells mc 4)).setCell ⟨gl, r * 6 + 3, none⟩ (.slice (some ⟨w.heap.size, 0, none⟩) np np)).setCell ⟨gl, r * 6 + 0, none⟩ (.int .u8 116)) =
      (((w.setCell ⟨gl, r * 6 + 3, none⟩ (.slice (some ⟨w.heap.size, 0, none⟩) np np)).setCell ⟨gl, r * 6, none⟩ (.int .u8 116)).alloc (.cells mc 4)) := by
    rw [World.setCell_alloc_past _ _ _ _ hgl, World.setCell_alloc_past _ _ _ _ (by simpa [World.setCell] using hgl)]; rfl
  rw [ew] at h3
  have ec : C.overtaken r = { C with lines := (C.lines.set r { C.lines[r] with marks := ovMarks np }).set r { (C.lines.set r { C.lines[r] with marks := ovMarks np })[r]'hr2 with ph := 116 } } := by
    unfold RBx.overtaken
    rw [unhide HLN, unhide HRT, unhide HNP]
    simp
  refine ⟨rfl, ⟨(.slice (some ⟨w.heap.size, 0, none⟩) np np), by rw [ec]; exact h3, ?_⟩, ?_⟩
  · intro b hb
    have hbw : w.heap.size = b := by simpa [Value.ownBlock] using hb
    omega
  rw [← ew]
  have hF : (fun b => (Value.slice (some ⟨gl, 0, none⟩) C.lines.length cl).ownBlock = some b) gl := rfl
  exact ((Only.of_below (below_alloc w (.cells mc 4))).trans (Only.setCell (a := ⟨gl, r * 6 + 3, none⟩) hF _)).trans (Only.setCell (a := ⟨gl, r * 6 + 0, none⟩) hF _)
end Go.Proofs.YtkbpocecbcaiiaaGreatDoor

/-
  A PLAN THAT IS READ OUT OF R ALONE: a route's cells and its path lie in R.
-/
namespace Go.Proofs.YtkbpocecbcaiiaaGreatDoor
open Go.RowKit

theorem same_cell {R : Nat → Prop} {w w' : World} (hs : SameOn R w w') {b : Nat} (hb : R b) (j : Nat) : w'.cell? ⟨b, j, none⟩ = w.cell? ⟨b, j, none⟩ := World.cell?_of_block (w := w) (hs b hb)
/-- a route, its cells and its path, in R. -/
theorem PlanIn.route {R : Nat → Prop} {w : World} {vh vr vt : Value} {L : Lay} (h : PlanIn R w vh vr vt L) (r : Nat) (hr : r < L.rts.length) :
    ∃ gr or_ cr ap cp, ∃ vs vf vg, vr = .slice (some ⟨gr, or_, none⟩) L.rts.length cr ∧ R gr ∧ gr < w.heap.size ∧ cr ≤ maxLen ∧ cp ≤ maxLen ∧
      (∀ j, j < 5 → w.cell? ⟨gr, or_ + r * 5 + j, none⟩ = [.int .i64 L.rts[r].foot, .slice ap L.rts[r].path.length cp, vs, vf, vg][j]?) ∧
      ∀ i (hi : i < L.rts[r].path.length), ∃ gp op, ap = some ⟨gp, op, none⟩ ∧ R gp ∧ gp < w.heap.size ∧ w.cell? ⟨gp, op + i, none⟩ = some (.int .i64 (L.rts[r].path[i].1 : Nat)) := by
  have h0 := (h.2 w (fun _ _ => rfl)).2.1
  obtain ⟨ao, cr, rfl, -, hcm, r3⟩ := SlAt.open h0
  obtain ⟨gr, or_, rfl, hgr, cs, -, hC, hc⟩ := r3 r hr
  obtain ⟨vp, vs, vf, vg, rfl, hP, -⟩ := hC
  obtain ⟨ap, cp, hvp, -, hpm, p3⟩ := SlAt.open hP
  rw [secs_len] at hvp
  subst hvp
  have hRg : R gr := by
    apply Classical.byContradiction
    intro hn
    have hs : SameOn R w (w.setCell ⟨gr, or_ + r * 5 + 0, none⟩ (.bool true)) := sameOn_setCell hn
    obtain ⟨ao', cr', he, -, -, r3'⟩ := SlAt.open (h.2 _ hs).2.1
    simp only [Value.slice.injEq, true_and] at he
    obtain ⟨gr', or', ha, -, cs', -, hC', hc'⟩ := r3' r hr
    rw [← he.1] at ha
    simp only [Option.some.injEq, Addr.mk.injEq, and_true] at ha
    obtain ⟨rfl, rfl⟩ := ha
    obtain ⟨vp', vs', vf', vg', rfl, -⟩ := hC'
    have h1 := hc' 0 (by omega)
    rw [World.cell?_setCell_same' _ _ _ (by rw [hc 0 (by omega)]; rfl)] at h1
    simp at h1
  refine ⟨gr, or_, cr, ap, cp, vs, vf, vg, rfl, hRg, hgr, hcm, hpm, hc, fun i hi => ?_⟩
  obtain ⟨gp, op, rfl, hgp, csp, -, hCp, hcp⟩ := p3 i (by rw [secs_len]; exact hi)
  unfold CInt at hCp
  subst hCp
  have hci := hcp 0 (by omega)
  rw [secs_get _ _ hi] at hci
  simp at hci
  refine ⟨gp, op, rfl, ?_, hgp, hci⟩
  apply Classical.byContradiction
  intro hn
  have hs : SameOn R w (w.setCell ⟨gp, op + i, none⟩ (.bool true)) := sameOn_setCell hn
  obtain ⟨ao', cr', he, -, -, r3'⟩ := SlAt.open (h.2 _ hs).2.1
  simp only [Value.slice.injEq, true_and] at he
  obtain ⟨gr', or', ha, -, cs', -, hC', hc'⟩ := r3' r hr
  rw [← he.1] at ha
  simp only [Option.some.injEq, Addr.mk.injEq, and_true] at ha
  obtain ⟨rfl, rfl⟩ := ha
  obtain ⟨vp', vs', vf', vg', rfl, hP', -⟩ := hC'
  have h1 := hc' 1 (by omega)
  rw [same_cell hs hRg, hc 1 (by omega)] at h1
  simp at h1
  subst h1
  obtain ⟨ap', cp', he', -, -, p3'⟩ := SlAt.open hP'
  simp only [Value.slice.injEq] at he'
  obtain ⟨gp', op', ha', -, csp', -, hCp', hcp'⟩ := p3' i (by rw [secs_len]; exact hi)
  rw [← he'.1] at ha'
  simp only [Option.some.injEq, Addr.mk.injEq, and_true] at ha'
  obtain ⟨rfl, rfl⟩ := ha'
  unfold CInt at hCp'
  subst hCp'
  have h2 := hcp' 0 (by omega)
  have e : op + i * 1 + 0 = op + i := by omega
  rw [e, World.cell?_setCell_same' _ _ _ (by rw [hci]; rfl)] at h2
  simp at h2
/-- the path's slice reads as the path wherever R holds the same. -/
theorem PlanIn.pathInts {R : Nat → Prop} {w w' : World} {vh vt : Value} {L : Lay} {gr or_ n cr : Nat} (h : PlanIn R w vh (.slice (some ⟨gr, or_, none⟩) n cr) vt L) (hRg : R gr) (r : Nat) (hr : r < L.rts.length) {u : Value} (hc : w.cell? ⟨gr, or_ + r * 5 + 1, none⟩ = some u) (hs : SameOn R w w') :
    Ints w' u (secs L.rts[r].path) := by
  obtain ⟨ao', cr', he, -, -, r3'⟩ := SlAt.open (h.2 _ hs).2.1
  simp only [Value.slice.injEq] at he
  obtain ⟨gr', or', ha, -, cs', -, hC', hc'⟩ := r3' r hr
  rw [← he.1] at ha
  simp only [Option.some.injEq, Addr.mk.injEq, and_true] at ha
  obtain ⟨rfl, rfl⟩ := ha
  obtain ⟨vp', vs', vf', vg', rfl, hP', -⟩ := hC'
  have h1 := hc' 1 (by omega)
  rw [same_cell hs hRg, hc] at h1
  simp at h1
  subst h1
  exact hP'
end Go.Proofs.YtkbpocecbcaiiaaGreatDoor

/-
  THE PROGRAM's BOX, AS IT IS WRITTEN: what it owns, what a store turns, what stays.
-/
namespace Go.Proofs.YtkbpocecbcaiiaaGreatDoor
open Go.RowKit

/-- a layout that is read out of the blocks of R alone; the routes' paths and flanks, too. -/
def LayIn (R : Nat → Prop) (w : World) (v : Value) (L : Lay) : Prop := (∀ k, R k → k < w.heap.size) ∧ ∀ w', SameOn R w w' → CLay w' v L
theorem LayIn.same {R : Nat → Prop} {w w' : World} {v : Value} {L : Lay} (h : LayIn R w v L) (hs : SameOn R w w') (hz : w.heap.size ≤ w'.heap.size) : LayIn R w' v L :=
  ⟨fun k hk => Nat.lt_of_lt_of_le (h.1 k hk) hz, fun w'' h2 => h.2 w'' (hs.trans h2)⟩
abbrev Q3 := Value × Value × Value
def ItIn (R : Nat → Prop) (w : World) (l : List PRt) (qs : List Q3) : Prop := ∀ w', SameOn R w w' → ∀ i (h : i < l.length) (h' : i < qs.length), Items w' qs[i].1 l[i].rt.path ∧ Items w' qs[i].2.1 l[i].rt.flank
theorem ItIn.same {R : Nat → Prop} {w w' : World} {l : List PRt} {qs : List Q3} (h : ItIn R w l qs) (hs : SameOn R w w') : ItIn R w' l qs := fun w'' h2 => h w'' (hs.trans h2)

def prtV (x : PRt) (q : Q3) : List Value := [.int .i64 x.rt.foot, q.1, q.2.1, .int .u8 x.ph, .int .i64 x.train, .bool x.been, .int .i64 x.count, q.2.2, .int .i64 x.freed]
def prtsV (l : List PRt) (qs : List Q3) : List (List Value) := List.zipWith prtV l qs

structure PM (w : World) (R : Nat → Prop) (g : Nat) (B : PBx) (vs vr vt vl vw va vq : Value) (qs : List Q3) : Prop where
  box : w.heap[g]? = some (.cells #[.int .i64 B.L.T, .int .i64 B.L.D, .int .i64 B.L.Q, vs, vr, vt, vl, vw, va, vq] 87 (0, 0))
  plan : LayIn R w (.agg #[.int .i64 B.L.T, .int .i64 B.L.D, .int .i64 B.L.Q, vs, vr, vt]) B.L
  items : ItIn R w B.rts qs
  routes : w.ownsRow 0 126 9 vl B.rts.length (prtsV B.rts qs).flatten
  qlen : qs.length = B.rts.length
  marks : ∀ i (h : i < qs.length) (h' : i < B.rts.length), w.ownsRow 0 4 1 qs[i].2.2 B.rts[i].marked.length (boolsV B.rts[i].marked)
  sws : w.ownsRow 0 121 3 vw B.sws.length (B.sws.map swV).flatten
  sta : w.ownsRow 0 3 1 va B.sta.length (intsV B.sta)
  waits : w.ownsRow 0 3 1 vq B.waits.length (intsV B.waits)
  smm : ∀ i j (hi : i < qs.length) (hj : j < qs.length), i ≠ j → ∀ b, qs[i].2.2.ownBlock = some b → qs[j].2.2.ownBlock ≠ some b
  saq : ∀ b, va.ownBlock = some b → vq.ownBlock ≠ some b
  out : ∀ b, (b = g ∨ vl.ownBlock = some b ∨ vw.ownBlock = some b ∨ va.ownBlock = some b ∨ vq.ownBlock = some b ∨ ∃ q, q ∈ qs ∧ q.2.2.ownBlock = some b) → ¬ R b

theorem prtsV_len (l : List PRt) (qs : List Q3) (h : qs.length = l.length) : (prtsV l qs).length = l.length := by simp [prtsV, h]
theorem prtsV_nine (l : List PRt) (qs : List Q3) : ∀ c, c ∈ prtsV l qs → c.length = 9 := by
  intro c hc
  obtain ⟨i, hi, rfl⟩ := List.getElem_of_mem hc
  simp [prtsV, prtV]
theorem prtsV_get (l : List PRt) (qs : List Q3) (i : Nat) (h : i < (prtsV l qs).length) (h1 : i < l.length) (h2 : i < qs.length) : (prtsV l qs)[i] = prtV l[i] qs[i] := by simp [prtsV]
theorem prtsV_set (l : List PRt) (qs : List Q3) (r : Nat) (x : PRt) (q : Q3) : prtsV (l.set r x) (qs.set r q) = (prtsV l qs).set r (prtV x q) := by
  unfold prtsV
  induction l generalizing qs r with
  | nil => simp
  | cons a l ih => cases qs with
    | nil => simp
    | cons b qs => cases r with
      | zero => rfl
      | succ r => simp [ih]
theorem all2_prt {w : World} (l : List PRt) (qs : List Q3) (hl : qs.length = l.length) (h : ∀ i (h : i < l.length) (h' : i < qs.length), Items w qs[i].1 l[i].rt.path ∧ Items w qs[i].2.1 l[i].rt.flank ∧ Bools w qs[i].2.2 l[i].marked) : All2 (CPRt w) l (prtsV l qs) := by
  induction l generalizing qs with
  | nil => cases qs with
    | nil => trivial
    | cons a b => simp at hl
  | cons x l ih => cases qs with
    | nil => simp at hl
    | cons m qs =>
      obtain ⟨a, b, c⟩ := h 0 (by simp) (by simp)
      refine ⟨⟨_, _, _, rfl, a, b, c⟩, ih qs (by simpa using hl) (fun i h1 h2 => ?_)⟩
      have := h (i + 1) (by simp; omega) (by simp; omega)
      simpa using this
theorem all2_sw {w : World} (l : List PSw) : All2 (CPSw w) l (l.map swV) := by
  induction l with
  | nil => trivial
  | cons x l ih => exact ⟨rfl, ih⟩
theorem swV_three (l : List PSw) : ∀ c, c ∈ l.map swV → c.length = 3 := by
  intro c hc
  obtain ⟨x, -, rfl⟩ := List.mem_map.1 hc
  rfl
/-- what reads the box. -/
theorem PM.at {w : World} {R : Nat → Prop} {g : Nat} {B : PBx} {vs vr vt vl vw va vq : Value} {qs : List Q3} (h : PM w R g B vs vr vt vl vw va vq qs) : PBoxAt w g B :=
  ⟨vs, vr, vt, vl, vw, va, vq, h.box, h.plan.2 w (fun _ _ => rfl),
    SlAt.ofOwnN h.routes (all2_prt _ _ h.qlen (fun i a b => ⟨(h.items w (fun _ _ => rfl) i a b).1, (h.items w (fun _ _ => rfl) i a b).2, Bools.ofOwn (h.marks i b a) rfl⟩)) (prtsV_nine _ _) rfl,
    SlAt.ofOwnN h.sws (all2_sw _) (swV_three _) rfl, Ints.ofOwn h.sta rfl, Ints.ofOwn h.waits rfl⟩

theorem PM.below {w w' : World} {R : Nat → Prop} {g : Nat} {B : PBx} {vs vr vt vl vw va vq : Value} {qs : List Q3} (h : PM w R g B vs vr vt vl vw va vq qs) (hb : Below w.heap.size w w') : PM w' R g B vs vr vt vl vw va vq qs :=
  { h with
    box := (hb.block g (blk_lt h.box)).trans h.box
    plan := h.plan.same (fun k hk => hb.block k (h.plan.1 k hk)) hb.size
    items := h.items.same (fun k hk => hb.block k (h.plan.1 k hk))
    routes := own_below h.routes hb
    marks := fun i a b => own_below (h.marks i a b) hb
    sws := own_below h.sws hb
    sta := own_below h.sta hb
    waits := own_below h.waits hb }

/-- a count of granted routes, in place. -/
theorem PM.setSta {w : World} {R : Nat → Prop} {g : Nat} {B : PBx} {vs vr vt vl vw vq : Value} {qs : List Q3} {ga n cap : Nat} (h : PM w R g B vs vr vt vl vw (.slice (some ⟨ga, 0, none⟩) n cap) vq qs) (hn : n = B.sta.length) (i x : Nat) :
    PM (w.setCell ⟨ga, i, none⟩ (.int .i64 x)) R g { B with sta := B.sta.set i x } vs vr vt vl vw (.slice (some ⟨ga, 0, none⟩) n cap) vq qs := by
  subst hn
  have hT := own_typed h.sta (k := ga) rfl
  have kk := fun e (n2 : 3 ≠ e) => Keeps.setCell ⟨ga, i, none⟩ (.int .i64 x) hT n2
  have hs : SameOn R w (w.setCell ⟨ga, i, none⟩ (.int .i64 x)) := sameOn_setCell (h.out ga (.inr (.inr (.inr (.inl rfl)))))
  refine { h with box := ?_, plan := ?_, items := ?_, routes := ?_, marks := ?_, sws := ?_, sta := ?_, waits := ?_ }
  · exact (kk _ (by decide) _ _ _ h.box).trans h.box
  · exact h.plan.same hs (by simp [World.setCell])
  · exact h.items.same hs
  · exact ownsRow_keep h.routes (kk _ (by decide))
  · exact fun i a b => ownsRow_keep (h.marks i a b) (kk _ (by decide))
  · exact ownsRow_keep h.sws (kk _ (by decide))
  · have := (h.sta.stored i (.int .i64 x)).1
    rw [intsV_set] at this
    simpa using this
  · exact own_other h.waits (h.saq ga rfl) _

theorem swsV_len (l : List PSw) : (l.map swV).flatten.length = l.length * 3 := by
  induction l with
  | nil => rfl
  | cons x l ih => simp [swV, ih]; omega
theorem flat_setP (css : List (List Value)) (sz r j : Nat) (h : ∀ c, c ∈ css → c.length = sz) (hr : r < css.length) (u : Value) (hj : j < sz) : css.flatten.set (r * sz + j) u = (css.set r (css[r].set j u)).flatten := by
  induction css generalizing r with
  | nil => simp at hr
  | cons c css ih =>
    have hc : c.length = sz := h c (List.mem_cons_self ..)
    cases r with
    | zero =>
      simp only [List.flatten_cons, List.set_cons_zero, List.getElem_cons_zero, Nat.zero_mul, Nat.zero_add]
      rw [List.set_append_left _ _ (by omega)]
    | succ r =>
      simp only [List.flatten_cons, List.set_cons_succ, List.getElem_cons_succ]
      rw [List.set_append_right _ _ (by rw [hc, Nat.succ_mul]; omega), ← ih r (fun x hx => h x (List.mem_cons_of_mem _ hx)) (by simpa using hr)]
      congr 2
      rw [hc, Nat.succ_mul]; omega

/-- a cell of a switch. -/
theorem PM.setSw {w : World} {R : Nat → Prop} {g : Nat} {B : PBx} {vs vr vt vl va vq : Value} {qs : List Q3} {gw n cap : Nat} (h : PM w R g B vs vr vt vl (.slice (some ⟨gw, 0, none⟩) n cap) va vq qs) (hn : n = B.sws.length) (i j : Nat) (hi : i < B.sws.length) (hj : j < 3) (u : Value) (x : PSw) (hx : swV x = (swV B.sws[i]).set j u) :
    PM (w.setCell ⟨gw, i * 3 + j, none⟩ u) R g { B with sws := B.sws.set i x } vs vr vt vl (.slice (some ⟨gw, 0, none⟩) n cap) va vq qs := by
  subst hn
  have hT := own_typed h.sws (k := gw) rfl
  have kk := fun e (n2 : 121 ≠ e) => Keeps.setCell ⟨gw, i * 3 + j, none⟩ u hT n2
  have hs : SameOn R w (w.setCell ⟨gw, i * 3 + j, none⟩ u) := sameOn_setCell (h.out gw (.inr (.inr (.inl rfl))))
  refine { h with box := ?_, plan := ?_, items := ?_, routes := ?_, marks := ?_, sws := ?_, sta := ?_, waits := ?_ }
  · exact (kk _ (by decide) _ _ _ h.box).trans h.box
  · exact h.plan.same hs (by simp [World.setCell])
  · exact h.items.same hs
  · exact ownsRow_keep h.routes (kk _ (by decide))
  · exact fun i a b => ownsRow_keep (h.marks i a b) (kk _ (by decide))
  · have := (h.sws.stored (i * 3 + j) u).1
    rw [flat_setP (B.sws.map swV) 3 i j (swV_three _) (by simpa using hi) u hj] at this
    have e : (B.sws.map swV).set i (((B.sws.map swV)[i]'(by simpa using hi)).set j u) = (B.sws.set i x).map swV := by
      rw [List.map_set, hx]; simp
    rw [e] at this
    simpa using this
  · exact ownsRow_keep h.sta (kk _ (by decide))
  · exact ownsRow_keep h.waits (kk _ (by decide))

/-- a cell of a route (not its marks). -/
theorem PM.setRt {w : World} {R : Nat → Prop} {g : Nat} {B : PBx} {vs vr vt vw va vq : Value} {qs : List Q3} {gl n cap : Nat} (h : PM w R g B vs vr vt (.slice (some ⟨gl, 0, none⟩) n cap) vw va vq qs) (hn : n = B.rts.length) (r j : Nat) (hr : r < B.rts.length) (hj : j < 9) (u : Value) (x : PRt)
    (hx : ∀ q, prtV x q = (prtV B.rts[r] q).set j u) (hxr : x.rt = B.rts[r].rt) (hxm : x.marked = B.rts[r].marked) :
    PM (w.setCell ⟨gl, r * 9 + j, none⟩ u) R g { B with rts := B.rts.set r x } vs vr vt (.slice (some ⟨gl, 0, none⟩) n cap) vw va vq qs := by
  subst hn
  have hT := own_typed h.routes (k := gl) rfl
  have kk := fun e (n2 : 126 ≠ e) => Keeps.setCell ⟨gl, r * 9 + j, none⟩ u hT n2
  have hs : SameOn R w (w.setCell ⟨gl, r * 9 + j, none⟩ u) := sameOn_setCell (h.out gl (.inr (.inl rfl)))
  have hrq : r < qs.length := by rw [h.qlen]; exact hr
  refine { h with box := ?_, plan := ?_, items := ?_, routes := ?_, qlen := ?_, marks := ?_, sws := ?_, sta := ?_, waits := ?_ }
  · exact (kk _ (by decide) _ _ _ h.box).trans h.box
  · exact h.plan.same hs (by simp [World.setCell])
  · intro w' hw i a b
    have a' : i < B.rts.length := by simpa using a
    have := (h.items.same hs) w' hw i a' b
    by_cases hi : r = i
    · subst hi; simp only [List.getElem_set_self, hxr]; exact this
    · simp only [List.getElem_set_ne hi]; exact this
  · have := (h.routes.stored (r * 9 + j) u).1
    rw [flat_setP (prtsV B.rts qs) 9 r j (prtsV_nine _ _) (by rw [prtsV_len _ _ h.qlen]; exact hr) u hj, prtsV_get _ _ _ _ hr hrq, ← hx, ← prtsV_set, set_self qs r hrq] at this
    simpa using this
  · simpa using h.qlen
  · intro i a b
    have b' : i < B.rts.length := by simpa using b
    have := ownsRow_keep (h.marks i a b') (kk _ (by decide))
    by_cases hi : r = i
    · subst hi; simp only [List.getElem_set_self, hxm]; exact this
    · simp only [List.getElem_set_ne hi]; exact this
  · exact ownsRow_keep h.sws (kk _ (by decide))
  · exact ownsRow_keep h.sta (kk _ (by decide))
  · exact ownsRow_keep h.waits (kk _ (by decide))

/-- one mark of a route. -/
theorem PM.setM1 {w : World} {R : Nat → Prop} {g : Nat} {B : PBx} {vs vr vt vl vw va vq : Value} {qs : List Q3} (h : PM w R g B vs vr vt vl vw va vq qs)
    (r : Nat) (hr : r < B.rts.length) (hrq : r < qs.length) {gm cap : Nat} (hms : qs[r].2.2 = .slice (some ⟨gm, 0, none⟩) B.rts[r].marked.length cap) (i : Nat) (x : Bool) :
    PM (w.setCell ⟨gm, i, none⟩ (.bool x)) R g { B with rts := B.rts.set r { B.rts[r] with marked := B.rts[r].marked.set i x } } vs vr vt vl vw va vq qs := by
  have hrow := h.marks r hrq hr
  rw [hms] at hrow
  have hT := own_typed hrow (k := gm) rfl
  have kk := fun e (n2 : 4 ≠ e) => Keeps.setCell ⟨gm, i, none⟩ (.bool x) hT n2
  have hmem : qs[r] ∈ qs := List.getElem_mem hrq
  have hob : qs[r].2.2.ownBlock = some gm := by rw [hms]; rfl
  have hs : SameOn R w (w.setCell ⟨gm, i, none⟩ (.bool x)) := sameOn_setCell (h.out gm (.inr (.inr (.inr (.inr (.inr ⟨_, hmem, hob⟩))))))
  refine { h with box := ?_, plan := ?_, items := ?_, routes := ?_, qlen := ?_, marks := ?_, sws := ?_, sta := ?_, waits := ?_ }
  · exact (kk _ (by decide) _ _ _ h.box).trans h.box
  · exact h.plan.same hs (by simp [World.setCell])
  · intro w' hw k a b
    have a' : k < B.rts.length := by simpa using a
    have := (h.items.same hs) w' hw k a' b
    by_cases hk : r = k
    · subst hk; simp only [List.getElem_set_self]; exact this
    · simp only [List.getElem_set_ne hk]; exact this
  · have h1 := ownsRow_keep h.routes (kk _ (by decide))
    have e : prtsV (B.rts.set r { B.rts[r] with marked := B.rts[r].marked.set i x }) qs = prtsV B.rts qs := by
      have := prtsV_set B.rts qs r { B.rts[r] with marked := B.rts[r].marked.set i x } qs[r]
      rw [set_self qs r hrq] at this
      rw [this]
      have hlen := prtsV_len _ _ h.qlen
      have e2 : prtV { B.rts[r] with marked := B.rts[r].marked.set i x } qs[r] = (prtsV B.rts qs)[r]'(by omega) := by rw [prtsV_get _ _ r (by omega) hr hrq]; rfl
      rw [e2, set_self]
    rw [e]
    simpa using h1
  · simpa using h.qlen
  · intro k a b
    have b' : k < B.rts.length := by simpa using b
    by_cases hk : r = k
    · subst hk
      have := (hrow.stored i (.bool x)).1
      rw [boolsV_set] at this
      rw [hms]
      simpa using this
    · have := own_other (a := ⟨gm, i, none⟩) (h.marks k a b') (h.smm r k hrq a hk gm hob) (.bool x)
      simpa [List.getElem_set_ne hk] using this
  · exact ownsRow_keep h.sws (kk _ (by decide))
  · exact ownsRow_keep h.sta (kk _ (by decide))
  · exact ownsRow_keep h.waits (kk _ (by decide))

/-- the cells of a route. -/
theorem PM.rtCells {w : World} {R : Nat → Prop} {g : Nat} {B : PBx} {vs vr vt vw va vq : Value} {qs : List Q3} {gl n cap : Nat} (h : PM w R g B vs vr vt (.slice (some ⟨gl, 0, none⟩) n cap) vw va vq qs) (hn : n = B.rts.length) {r : Nat} (hr : r < B.rts.length) (hrq : r < qs.length) :
    (∀ j, j < 9 → w.cell? ⟨gl, r * 9 + j, none⟩ = (prtV B.rts[r] qs[r])[j]?) ∧ (∀ j, w.frozen? ⟨gl, j, none⟩ = false) ∧ gl < w.heap.size := by
  subst hn
  have hlen := prtsV_len _ _ h.qlen
  refine ⟨fun j hj => ?_, fun j => h.routes.frozenAt _, (h.routes.lt gl rfl).2⟩
  rw [h.routes.cellAt (r * 9 + j) (by omega), flatten_get _ 9 (prtsV_nine _ _) r j (by omega) hj, prtsV_get _ _ r (by omega) hr hrq]
theorem PM.swCells {w : World} {R : Nat → Prop} {g : Nat} {B : PBx} {vs vr vt vl va vq : Value} {qs : List Q3} {gw n cap : Nat} (h : PM w R g B vs vr vt vl (.slice (some ⟨gw, 0, none⟩) n cap) va vq qs) (hn : n = B.sws.length) {i : Nat} (hi : i < B.sws.length) :
    (∀ j, j < 3 → w.cell? ⟨gw, i * 3 + j, none⟩ = (swV B.sws[i])[j]?) ∧ (∀ j, w.frozen? ⟨gw, j, none⟩ = false) ∧ gw < w.heap.size := by
  subst hn
  refine ⟨fun j hj => ?_, fun j => h.sws.frozenAt _, (h.sws.lt gw rfl).2⟩
  rw [h.sws.cellAt (i * 3 + j) (by omega), flatten_get _ 3 (swV_three _) i j (by simpa using hi) hj]
  simp

theorem own_base {w : World} {b b' : Nat} {e : TypeId} {sz : Nat} {v : Value} {n : Nat} {xs : List Value} (h : w.ownsRow b e sz v n xs) (hb : b' ≤ b) : w.ownsRow b' e sz v n xs := by
  refine ⟨h.1, ?_⟩
  rcases h.2 with h2 | ⟨g, cap, cur, hv, hg, r⟩
  · exact .inl h2
  · exact .inr ⟨g, cap, cur, hv, Nat.le_trans hb hg, r⟩
/-- the box, with all that it reads and writes in D. -/
def PBoxIn (w : World) (D : Nat → Prop) (g : Nat) (B : PBx) : Prop := ∃ R vs vr vt vl vw va vq qs, PM w R g B vs vr vt vl vw va vq qs ∧ (∀ b, R b → D b) ∧ (∀ b, D b → b < w.heap.size) ∧
  ∀ b, (b = g ∨ vl.ownBlock = some b ∨ vw.ownBlock = some b ∨ va.ownBlock = some b ∨ vq.ownBlock = some b ∨ ∃ q, q ∈ qs ∧ q.2.2.ownBlock = some b) → D b
theorem PBoxIn.at {w : World} {D : Nat → Prop} {g : Nat} {B : PBx} (h : PBoxIn w D g B) : PBoxAt w g B := by
  obtain ⟨R, vs, vr, vt, vl, vw, va, vq, qs, h, -⟩ := h
  exact h.at
theorem PBoxIn.only {w w' : World} {D F : Nat → Prop} {g : Nat} {B : PBx} (h : PBoxIn w D g B) (ho : Only F w w') (hd : ∀ k, D k → ¬ F k) : PBoxIn w' D g B := by
  obtain ⟨R, vs, vr, vt, vl, vw, va, vq, qs, h, h1, h2, h3⟩ := h
  have hs : SameOn D w w' := fun k hk => ho.block k (h2 k hk) (hd k hk)
  have hsR : SameOn R w w' := fun k hk => hs k (h1 k hk)
  refine ⟨R, vs, vr, vt, vl, vw, va, vq, qs, { h with box := ?_, plan := ?_, items := ?_, routes := ?_, marks := ?_, sws := ?_, sta := ?_, waits := ?_ }, h1, fun k hk => Nat.lt_of_lt_of_le (h2 k hk) ho.size, h3⟩
  · exact (hs g (h3 g (.inl rfl))).trans h.box
  · exact h.plan.same hsR ho.size
  · exact h.items.same hsR
  · exact own_same h.routes hs (fun k hk => h3 k (.inr (.inl hk)))
  · exact fun i a b => own_same (h.marks i a b) hs (fun k hk => h3 k (.inr (.inr (.inr (.inr (.inr ⟨_, List.getElem_mem a, hk⟩))))))
  · exact own_same h.sws hs (fun k hk => h3 k (.inr (.inr (.inl hk))))
  · exact own_same h.sta hs (fun k hk => h3 k (.inr (.inr (.inr (.inl hk)))))
  · exact own_same h.waits hs (fun k hk => h3 k (.inr (.inr (.inr (.inr (.inl hk))))))

/-- a route of the layout: its cells, and what its path and flank are wherever R holds the same. -/
theorem LayIn.route {R : Nat → Prop} {w : World} {T D Q vs vr vt : Value} {L : Lay} (h : LayIn R w (.agg #[T, D, Q, vs, vr, vt]) L) (r : Nat) (hr : r < L.rts.length) :
    ∃ gx ox cx vp vf, vr = .slice (some ⟨gx, ox, none⟩) L.rts.length cx ∧ gx < w.heap.size ∧ (∀ j, j < 3 → w.cell? ⟨gx, ox + r * 3 + j, none⟩ = [.int .i64 L.rts[r].foot, vp, vf][j]?) ∧
      ∀ w', SameOn R w w' → Items w' vp L.rts[r].path ∧ Items w' vf L.rts[r].flank := by
  obtain ⟨vs0, vr0, vt0, he0, -, h0, -⟩ := h.2 w (fun _ _ => rfl)
  simp only [Value.agg.injEq, Array.mk.injEq, List.cons.injEq, and_true] at he0
  obtain ⟨-, -, -, rfl, rfl, rfl⟩ := he0
  obtain ⟨ao, cx, rfl, -, -, r3⟩ := SlAt.open h0
  obtain ⟨gx, ox, rfl, hgx, cs, -, hC, hc⟩ := r3 r hr
  obtain ⟨vp, vf, rfl, hP, hF⟩ := hC
  have hRg : R gx := by
    apply Classical.byContradiction
    intro hn
    have hs : SameOn R w (w.setCell ⟨gx, ox + r * 3 + 0, none⟩ (.bool true)) := sameOn_setCell hn
    obtain ⟨vs', vr', vt', he, -, h', -⟩ := h.2 _ hs
    simp only [Value.agg.injEq, Array.mk.injEq, List.cons.injEq, and_true] at he
    obtain ⟨-, -, -, rfl, rfl, rfl⟩ := he
    obtain ⟨ao', cr', he, -, -, r3'⟩ := SlAt.open h'
    simp only [Value.slice.injEq, true_and] at he
    obtain ⟨gr', or', ha, -, cs', -, hC', hc'⟩ := r3' r hr
    rw [← he.1] at ha
    simp only [Option.some.injEq, Addr.mk.injEq, and_true] at ha
    obtain ⟨rfl, rfl⟩ := ha
    obtain ⟨vp', vf', rfl, -⟩ := hC'
    have h1 := hc' 0 (by omega)
    rw [World.cell?_setCell_same' _ _ _ (by rw [hc 0 (by omega)]; rfl)] at h1
    simp at h1
  refine ⟨gx, ox, cx, vp, vf, rfl, hgx, hc, fun w' hs => ?_⟩
  obtain ⟨vs', vr', vt', he, -, h', -⟩ := h.2 _ hs
  simp only [Value.agg.injEq, Array.mk.injEq, List.cons.injEq, and_true] at he
  obtain ⟨-, -, -, rfl, rfl, rfl⟩ := he
  obtain ⟨ao', cr', he, -, -, r3'⟩ := SlAt.open h'
  simp only [Value.slice.injEq] at he
  obtain ⟨gr', or', ha, -, cs', -, hC', hc'⟩ := r3' r hr
  rw [← he.1] at ha
  simp only [Option.some.injEq, Addr.mk.injEq, and_true] at ha
  obtain ⟨rfl, rfl⟩ := ha
  obtain ⟨vp', vf', rfl, hP', hF'⟩ := hC'
  have h1 := hc' 1 (by omega)
  have h2 := hc' 2 (by omega)
  rw [same_cell hs hRg, hc 1 (by omega)] at h1
  rw [same_cell hs hRg, hc 2 (by omega)] at h2
  simp at h1 h2
  subst h1 h2
  exact ⟨hP', hF'⟩
theorem LayIn.all {w : World} {v : Value} {L : Lay} (h : CLay w v L) : LayIn (fun k => k < w.heap.size) w v L :=
  ⟨fun _ hk => hk, fun w' hs => by
    obtain ⟨vs, vr, vt, e, a, b, c⟩ := h
    have kk : ∀ e, Keeps e w w' := fun e g cur fr hg => hs g (blk_lt hg)
    exact ⟨vs, vr, vt, e, a.keep (kk _), b.keep (kk _) (kk _), c.keep (kk _) (kk _)⟩⟩
end Go.Proofs.YtkbpocecbcaiiaaGreatDoor
