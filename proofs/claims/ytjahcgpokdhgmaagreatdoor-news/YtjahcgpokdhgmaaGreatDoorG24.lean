import Derived.Test.YtjahcgpokdhgmaaGreatDoorG2
import Derived.Test.YtjahcgpokdhgmaaGreatDoorG1
import Derived.Test.YtjahcgpokdhgmaaGreatDoorG22
import Derived.Test.YtjahcgpokdhgmaaGreatDoorG9
/-
  THE WALK OVER strconv.Itoa, at the numbers that Order hands it.
-/
namespace Go.Proofs.YtjahcgpokdhgmaaGreatDoor
open Go.RowKit

set_option maxHeartbeats 400000 in
theorem Itoa_any (n : Nat) (w : World) (h : n < 10) :
    Calls Tryz.prog 88 #[.int .i64 n] w fun e w' => e = .returned (.string ⟨#[UInt8.ofNat (48 + n)]⟩) ∧ w' = w := by
  have h10 : (n : Int) < 10 := by omega
  have h100 : (n : Int) < 100 := by omega
  have h0 : (0 : Int) ≤ n := by omega
  go_enter Tryz.func88, Tryz.ntmps88
  go_wp2
  go_ret
  refine ⟨?_, rfl⟩
  clear h10 h100 h0
  match n, h with
  | 0, _ => rfl
  | 1, _ => rfl
  | 2, _ => rfl
  | 3, _ => rfl
  | 4, _ => rfl
  | 5, _ => rfl
  | 6, _ => rfl
  | 7, _ => rfl
  | 8, _ => rfl
  | 9, _ => rfl
end Go.Proofs.YtjahcgpokdhgmaaGreatDoor

/-
  AN ORDER AS A TEXT; AN ORDER FOLLOWED TO ITS END.
-/
namespace Go.Proofs.YtjahcgpokdhgmaaGreatDoor

/-- an order, followed to its end. -/
def Lay.Foll (L : Lay) : List Nat → List Nat → Prop
  | at_, [] => L.allDone at_ = true
  | at_, t :: o => t < at_.length ∧ L.doneB at_ t = false ∧ L.runsB at_ t = true ∧ L.Foll (L.withN at_ t) o

def ordStr (o : List Nat) : ByteArray := ⟨(o.map (fun t => UInt8.ofNat (49 + t))).toArray⟩
theorem ordStr_snoc (o : List Nat) (t : Nat) : ordStr o ++ ⟨#[UInt8.ofNat (48 + (t + 1))]⟩ = ordStr (o ++ [t]) := by
  apply ByteArray.ext
  rw [ByteArray.data_append]
  unfold ordStr
  rw [show 48 + (t + 1) = 49 + t by omega]
  simp
theorem ordStr_size (o : List Nat) : (ordStr o).size = o.length := by simp [ordStr, ByteArray.size]
theorem ordStr_get (o : List Nat) (k : Nat) (h : k < (ordStr o).size) (h9 : ∀ t, t ∈ o → t < 9) : (ordStr o)[k].toNat = 49 + o[k]'(by rw [ordStr_size] at h; exact h) := by
  have hk : k < o.length := by rw [ordStr_size] at h; exact h
  have e : (ordStr o)[k] = UInt8.ofNat (49 + o[k]) := by
    show (ordStr o).data[k]'(by exact h) = _
    simp [ordStr]
  have := h9 _ (List.getElem_mem hk)
  rw [e, UInt8.toNat_ofNat_of_lt' (by simp [UInt8.size]; omega)]
end Go.Proofs.YtjahcgpokdhgmaaGreatDoor

/-
  THE WALK OVER rails.digits.
-/
namespace Go.Proofs.YtjahcgpokdhgmaaGreatDoor
open Go.RowKit

theorem Itoa_succ (n : Nat) (w : World) (h : n < 9) :
    Calls Tryz.prog 88 #[.int .i64 ((n : Int) + 1)] w fun e w' => e = .returned (.string ⟨#[UInt8.ofNat (48 + (n + 1))]⟩) ∧ w' = w := by
  have := Itoa_any (n + 1) w (by omega)
  rw [show ((n + 1 : Nat) : Int) = (n : Int) + 1 by omega] at this
  exact this

set_option maxHeartbeats 1000000 in
theorem digits_any (v : Value) (o : List Nat) (w : World) (h : Ints w v o) (h9 : ∀ t, t ∈ o → t < 9) (_hlo : o.length ≤ 1000) :
    Calls Tryz.prog 84 #[v] w fun e w' => e = .returned (.string (ordStr o)) ∧ w' = w := by
  have HT := hide h9
  obtain ⟨ag, cg, rfl, h1, h2, h3⟩ := SlAt.open h
  unfold maxLen at h2
  clear h h9
  go_enter Tryz.func84, Tryz.ntmps84
  go_wp2
  go_loopw [3, 8] (fun d i wr => ∃ k : Nat, k ≤ o.length ∧ i = .int .i64 k ∧ d = .string (ordStr (o.take k)) ∧ wr = w) (fun _ i _ => o.length - (intOf i).toNat)
  case atStart => exact ⟨0, Nat.zero_le _, rfl, rfl, rfl⟩
  case round =>
    obtain ⟨k, hk, rfl, rfl, rfl⟩ := hrel
    have hsz := ordStr_size (o.take k)
    rw [List.length_take, Nat.min_eq_left hk] at hsz
    obtain ⟨p, hp⟩ : ∃ p, p = ordStr (o.take k) := ⟨_, rfl⟩
    rw [← hp] at hsz ⊢
    have HP := hide hp
    clear hp
    by_cases hlt : k < o.length
    · obtain ⟨g, off, hao, hg, cs, -, hC, hc⟩ := h3 k hlt
      subst hao
      unfold CInt at hC
      subst hC
      have hc0 := hc 0 (by omega)
      simp at hc0
      have h9 := unhide HT _ (List.getElem_mem hlt)
      have HS := hide (show ordStr (o.take (k + 1)) = p ++ ⟨#[UInt8.ofNat (48 + (o[k] + 1))]⟩ by
        rw [unhide HP, ordStr_snoc, List.take_succ_eq_append_getElem hlt])
      clear hc h3
      generalize o[k] = t at *
      go_wp2_with (go_at_call 88; refine (Itoa_succ t _ h9).mono ?_; rintro e w' ⟨rfl, rfl⟩)
      exact ⟨⟨k + 1, by omega, by go_num, by rw [unhide HS]; simp, by trivial⟩, by simp [intOf]; omega⟩
    · obtain rfl : k = o.length := by omega
      rw [List.take_length] at HP
      clear h3
      go_wp2
      go_ret
      exact ⟨by first | (rw [unhide HP]; done) | (rw [← unhide HP]; rfl), rfl⟩

end Go.Proofs.YtjahcgpokdhgmaaGreatDoor

/-
  THE PROGRAM's BOX: in plain terms, and as it lies in memory; what reads a route of it.
-/
namespace Go.Proofs.YtjahcgpokdhgmaaGreatDoor
open Go.RowKit

structure PRt where
  rt : Rt
  ph : Nat
  train : Nat
  marked : List Bool
  freed : Nat
structure PBx where
  L : Lay
  rts : List PRt
  wanted : List Nat
  sta : List Nat
  waits : List Nat

def CPRt (w : World) (x : PRt) (cs : List Value) : Prop := ∃ vp vf vm, cs = [.int .i64 x.rt.foot, vp, vf, .int .u8 x.ph, .int .i64 x.train, vm, .int .i64 x.freed] ∧ Items w vp x.rt.path ∧ Items w vf x.rt.flank ∧ Bools w vm x.marked
theorem CPRt.keep {w w' : World} {x : PRt} {cs : List Value} (h : CPRt w x cs) (k : Keeps 189 w w') (k1 : Keeps 4 w w') : CPRt w' x cs := by
  obtain ⟨vp, vf, vm, e, a, b, c⟩ := h
  exact ⟨vp, vf, vm, e, a.keep k, b.keep k, c.keep k1⟩
def PRts (w : World) (v : Value) (l : List PRt) : Prop := SlAt 123 7 CPRt w v l
theorem PRts.keep {w w' : World} {v : Value} {l : List PRt} (h : PRts w v l) (k : Keeps 123 w w') (k1 : Keeps 189 w w') (k2 : Keeps 4 w w') : PRts w' v l := SlAt.keep h k (fun _ _ h => h.keep k1 k2)

def PBoxAt (w : World) (g : Nat) (B : PBx) : Prop := ∃ vs vr vt vl vw va vq,
  w.heap[g]? = some (.cells #[.int .i64 B.L.T, .int .i64 B.L.D, .int .i64 B.L.Q, vs, vr, vt, vl, vw, va, vq] 86 (0, 0)) ∧
  CLay w (.agg #[.int .i64 B.L.T, .int .i64 B.L.D, .int .i64 B.L.Q, vs, vr, vt]) B.L ∧ PRts w vl B.rts ∧ Byts w vw B.wanted ∧ Ints w va B.sta ∧ Ints w vq B.waits
theorem PBoxAt.below {w w' : World} {g : Nat} {B : PBx} (h : PBoxAt w g B) (k : Below w.heap.size w w') : PBoxAt w' g B := by
  obtain ⟨vs, vr, vt, vl, vw, va, vq, e, h1, h2, h3, h4, h5⟩ := h
  have kk := fun e => Keeps.below (e := e) k
  exact ⟨vs, vr, vt, vl, vw, va, vq, (k.block g (blk_lt e)).trans e, h1.below k, h2.keep (kk _) (kk _) (kk _), h3.keep (kk _), h4.keep (kk _), h5.keep (kk _)⟩
theorem box10 {w : World} {g : Nat} {c0 c1 c2 c3 c4 c5 c6 c7 c8 c9 : Value} {e : TypeId} (h : w.heap[g]? = some (.cells #[c0, c1, c2, c3, c4, c5, c6, c7, c8, c9] e (0, 0))) :
    (w.cell? ⟨g, 0, none⟩ = some c0 ∧ w.cell? ⟨g, 1, none⟩ = some c1 ∧ w.cell? ⟨g, 2, none⟩ = some c2 ∧ w.cell? ⟨g, 3, none⟩ = some c3 ∧ w.cell? ⟨g, 4, none⟩ = some c4 ∧ w.cell? ⟨g, 5, none⟩ = some c5 ∧
      w.cell? ⟨g, 6, none⟩ = some c6 ∧ w.cell? ⟨g, 7, none⟩ = some c7 ∧ w.cell? ⟨g, 8, none⟩ = some c8 ∧ w.cell? ⟨g, 9, none⟩ = some c9) ∧
    (w.frozen? ⟨g, 6, none⟩ = false ∧ w.frozen? ⟨g, 7, none⟩ = false ∧ w.frozen? ⟨g, 8, none⟩ = false ∧ w.frozen? ⟨g, 9, none⟩ = false) ∧ g < w.heap.size :=
  ⟨⟨blk_cell0 h 0, blk_cell0 h 1, blk_cell0 h 2, blk_cell0 h 3, blk_cell0 h 4, blk_cell0 h 5, blk_cell0 h 6, blk_cell0 h 7, blk_cell0 h 8, blk_cell0 h 9⟩,
   ⟨blk_free0 h 6, blk_free0 h 7, blk_free0 h 8, blk_free0 h 9⟩, blk_lt h⟩

/-- a slice of bytes as a text. -/
theorem byts_str {w : World} {v : Value} {l : List Nat} (h : Byts w v l) : (convert 75 9 v).run Tryz.prog w = .ok (.string (natsStr l)) w := by
  obtain ⟨ao, cap, rfl, -, -, h3⟩ := h
  have e : natsStr l = strOfNums (l.map Int.ofNat) := by simp [natsStr, strOfNums]
  rcases h3 with h3 | ⟨g, off, cur, fr, rfl, hg, hc⟩
  · subst h3
    have := @run_convert_bytes_nil Tryz.prog
    first
      | (cases ao with
        | none => exact this w _ _ Tryz.underlying75 Tryz.underlying5 _ _ _ Tryz.underlying9
        | some a => 
          have := run_convert_bytes_string (P := Tryz.prog) w 75 9 5 (some a) 0 cap Tryz.underlying75 Tryz.underlying5 Tryz.underlying9
          rw [show ([] : List Nat).length = 0 from rfl, this, run_bytesToString w a 0 cap [] (by simpa using run_loadCells_list (P := Tryz.prog) w a [] (by simp))]
          rfl)
  · rw [e]
    refine run_convert_bytes_arg (P := Tryz.prog) w _ _ Tryz.underlying75 Tryz.underlying5 g off l.length cap _ (by simp) (fun i hi => ?_) _ Tryz.underlying9
    obtain ⟨cs, -, hC, hcs⟩ := hc i hi
    have := hcs 0 (by omega)
    unfold CByte at hC
    subst hC
    rw [cell_of_block hg]
    simp at this
    rw [this]
    simp [hi]

def PRt.lockB (x : PRt) (s : Nat) : Bool := x.ph != 46 && ((secs x.rt.path).drop x.freed).contains s
def PBx.lockB (B : PBx) (s r : Nat) : Bool := (B.rts.getD r ⟨Rt0, 46, 0, [], 0⟩).lockB s
def PBx.lockedBy (B : PBx) (s : Nat) : Option Nat := (List.range B.rts.length).find? (B.lockB s)
def PBx.locksT (B : PBx) : List Nat := (List.range B.L.sw.length).map (fun s => lockC (B.lockedBy s))
def PBx.phasesT (B : PBx) : List Nat := B.rts.map (·.ph)
def PBx.swT (B : PBx) (s : Nat) : List Nat := if B.L.sw.getD s false then [B.wanted.getD s 0] else []
def PBx.switchesT (B : PBx) : List Nat := (List.range B.wanted.length).flatMap B.swT
def PBx.stateT (B : PBx) : List Nat := B.sta.map (48 + ·)

set_option maxHeartbeats 400000 in
theorem isSet_at (g o ph : Nat) (w : World) (h : w.cell? ⟨g, o + 3, none⟩ = some (.int .u8 ph)) :
    Calls Tryz.prog 164 #[.pointer (some ⟨g, o, none⟩)] w fun e w' => e = .returned (.bool (ph != 46)) ∧ w' = w := by
  have hx : ((ph : Int) != 46) = (ph != 46) := by
    rw [Bool.eq_iff_iff]; simp; omega
  go_enter Tryz.func164, Tryz.ntmps164
  go_wp2
  go_ret
  exact ⟨rfl, rfl⟩

set_option maxHeartbeats 1000000 in
theorem locks_at (g o : Nat) (x : PRt) (cs : List Value) (s : Nat) (w : World) (hg : g < w.heap.size) (hc : ∀ j, j < 7 → w.cell? ⟨g, o + j, none⟩ = cs[j]?) (hC : CPRt w x cs) (_hf : x.freed ≤ 1000) :
    Calls Tryz.prog 125 #[.pointer (some ⟨g, o, none⟩), .int .i64 s] w fun e w' => e = .returned (.bool (x.lockB s)) ∧ Below w.heap.size w w' := by
  obtain ⟨vp, vf, vm, rfl, hP, -, -⟩ := hC
  have c1 := hc 1 (by omega)
  have c3 := hc 3 (by omega)
  have c6 := hc 6 (by omega)
  simp at c1 c3 c6
  have HS := hide (isSet_at g o x.ph w c3)
  unfold PRt.lockB
  obtain ⟨ap, cp, rfl, hpl, hmp, p3⟩ := SlAt.open hP
  unfold maxLen at hmp
  obtain ⟨Z, hZ⟩ : ∃ Z, Z = (x.ph != 46 && ((secs x.rt.path).drop x.freed).contains s) := ⟨_, rfl⟩
  rw [← hZ]
  have HZ := hide hZ
  have hcd := hide (contains_drop (secs x.rt.path) x.freed s)
  have HSL := hide (show (secs x.rt.path).length = x.rt.path.length by simp [secs])
  have HSG := hide (show ∀ k (h : k < x.rt.path.length) (h' : k < (secs x.rt.path).length), (secs x.rt.path)[k] = x.rt.path[k].1 by intro k h h'; simp [secs])
  generalize x.rt.path = P at *
  generalize x.freed = fr at *
  clear hc hP hZ
  by_cases hph : x.ph = 46
  · have b0 : (x.ph != 46) = false := by simp [hph]
    have HZ0 := hide (show Z = false by rw [unhide HZ, b0]; rfl)
    rw [b0] at HS
    generalize x.ph = ph at *
    clear p3 HZ
    go_enter Tryz.func125, Tryz.ntmps125
    go_wp2_with fail
    refine (unhide HS).mono ?_
    rintro e w1 ⟨rfl, rfl⟩
    go_wp2
    go_ret
    exact ⟨ret_bool (unhide HZ0).symm, Below.refl _ _⟩
  · have b0 : (x.ph != 46) = true := by simp [hph]
    have HZ0 := hide (show Z = ((secs P).drop fr).contains s by rw [unhide HZ, b0]; rfl)
    rw [b0] at HS
    generalize x.ph = ph at *
    clear HZ
    go_enter Tryz.func125, Tryz.ntmps125
    go_wp2_with fail
    refine (unhide HS).mono ?_
    rintro e w1 ⟨rfl, rfl⟩
    go_wp2
    go_loopw [16] (fun i wr => ∃ k : Nat, i = .int .i64 k ∧ k ≤ P.length ∧ (∀ j (h : j < P.length), fr ≤ j → j < k → P[j].1 ≠ s) ∧ Below w1.heap.size w1 wr) (fun i _ => P.length - (intOf i).toNat)
    case atStart => exact ⟨0, rfl, Nat.zero_le _, fun j h h1 h2 => by omega, Below.refl _ _⟩
    case round =>
      obtain ⟨k, rfl, hk, hno, hb⟩ := hrel
      have HNO := hide hno
      have HB := hide hb
      have hbs := hb.size
      clear hno
      by_cases hlt : k < P.length
      · obtain ⟨gp, op, hap, hgp, csp, -, hCp, hcp⟩ := p3 k hlt
        subst hap
        unfold CItem itemV at hCp
        subst hCp
        have x0 := hcp 0 (by omega)
        have x1 := hcp 1 (by omega)
        rw [← hb.cell (p := ⟨gp, _, none⟩) hgp] at x0 x1
        rw [← hb.cell (p := ⟨g, _, none⟩) hg] at c6
        simp at x0 x1
        have l1 : (k : Int) < P.length := by omega
        have hgw : g < wr.heap.size := by omega
        have hgpw : gp < wr.heap.size := by omega
        have HNN := hide (show (fr ≤ k → P[k].1 ≠ s) → ∀ j (h : j < P.length), fr ≤ j → j < k + 1 → P[j].1 ≠ s by
          intro hx j h h1 h2
          by_cases hj : j < k
          · exact unhide HNO j h h1 hj
          · obtain rfl : j = k := by omega
            exact hx h1)
        have HFD := hide (show fr ≤ k → P[k].1 = s → Z = true by
          intro h0 h1
          rw [unhide HZ0, (unhide hcd).2 ⟨k, by rw [unhide HSL]; exact hlt, h0, by rw [unhide HSG k hlt]; exact h1⟩])
        clear hcp p3 hb
        generalize P[k].1 = y at *
        generalize P[k].2 = y2 at *
        by_cases hfr : fr ≤ k
        · have b1 : decide ((fr : Int) ≤ k) = true := by simp; omega
          by_cases hys : y = s
          · have b2 : ((y : Int) == s) = true := by simp [hys]
            have HZ2 := hide (unhide HFD hfr hys)
            go_wp2
            go_ret
            exact ⟨ret_bool (unhide HZ2).symm, (unhide HB).alloc hbs _⟩
          · have b2 : ((y : Int) == s) = false := by simp; omega
            go_wp2
            exact ⟨⟨k + 1, by go_num, by omega, unhide HNN (fun _ => hys), (unhide HB).alloc hbs _⟩, by simp [intOf]; omega⟩
        · have b1 : decide ((fr : Int) ≤ k) = false := by simp; omega
          go_wp2
          exact ⟨⟨k + 1, by go_num, by omega, unhide HNN (fun h => absurd h hfr), (unhide HB).alloc hbs _⟩, by simp [intOf]; omega⟩
      · have HZ2 := hide (show Z = false by
          rw [unhide HZ0, Bool.eq_false_iff]
          intro h
          obtain ⟨j, hj, h1, h2⟩ := (unhide hcd).1 h
          have hj' : j < P.length := by rw [← unhide HSL]; exact hj
          rw [unhide HSG j hj'] at h2
          exact unhide HNO j hj' h1 (by omega) h2)
        have l1 : (P.length : Int) ≤ k := by omega
        clear p3 hb
        go_wp2
        go_ret
        exact ⟨ret_bool (unhide HZ2).symm, unhide HB⟩
end Go.Proofs.YtjahcgpokdhgmaaGreatDoor

/-
  THE WALKS OVER rails.Box: lockedBy, Locks, Phases, Switches, At, Queue.
-/
namespace Go.Proofs.YtjahcgpokdhgmaaGreatDoor
open Go.RowKit

def optN : Option Nat → Nat
  | none => 0
  | some r => r

set_option maxHeartbeats 1000000 in
theorem lockedBy_any (g : Nat) (B : PBx) (s : Nat) (w : World) (h : PBoxAt w g B) (hr : B.rts.length ≤ 1000) (hf : ∀ x, x ∈ B.rts → x.freed ≤ 1000) :
    Calls Tryz.prog 86 #[.pointer (some ⟨g, 0, none⟩), .int .i64 s] w fun e w' => e = .returned (.tuple #[.int .i64 (optN (B.lockedBy s)), .bool (B.lockedBy s).isSome]) ∧ Below w.heap.size w w' := by
  obtain ⟨vs, vr, vt, vl, vw, va, vq, hB, -, hL, -⟩ := h
  obtain ⟨al, cl, rfl, -, hml, l3⟩ := SlAt.open hL
  obtain ⟨⟨-, -, -, -, -, -, q6, -⟩, -, qg⟩ := box10 hB
  have HK := hide (show ∀ k (h : k < B.rts.length), B.lockB s k = B.rts[k].lockB s by
    intro k h
    unfold PBx.lockB
    rw [List.getD_eq_getElem?_getD, List.getElem?_eq_getElem h]; rfl)
  unfold PBx.lockedBy
  generalize hlb : B.lockB s = f at *
  clear hlb
  generalize B.rts = ls at *
  unfold maxLen at hml
  obtain ⟨Z, hZ⟩ : ∃ Z, Z = (List.range ls.length).find? f := ⟨_, rfl⟩
  rw [← hZ]
  have HZ := hide hZ
  clear hL hB hZ
  have HF := hide hf
  clear hf
  go_enter Tryz.func86, Tryz.ntmps86
  go_wp2
  go_loopw [12] (fun i wr => ∃ k : Nat, k ≤ ls.length ∧ i = .int .i64 k ∧ (∀ j, j < k → f j = false) ∧ Below w.heap.size w wr) (fun i _ => ls.length - (intOf i).toNat)
  case atStart => exact ⟨0, Nat.zero_le _, rfl, fun j h => by omega, Below.refl _ _⟩
  case round =>
    obtain ⟨k, hk, rfl, hno, hb⟩ := hrel
    have HNO := hide hno
    have HB := hide hb
    have hbs := hb.size
    rw [← hb.cell (p := ⟨g, 6, none⟩) qg] at q6
    clear hno
    by_cases hlt : k < ls.length
    · obtain ⟨gl, ol, hal, hgl, cs, -, hC, hc⟩ := l3 k hlt
      subst hal
      have HLK := hide (locks_at gl (ol + k * 7) ls[k] cs s wr (by omega) (fun j hj => by rw [hb.cell (p := ⟨gl, _, none⟩) hgl]; exact hc j hj) (hC.keep (Keeps.below hb) (Keeps.below hb)) (unhide HF _ (List.getElem_mem hlt)))
      rw [← unhide HK k hlt] at HLK
      have l1 : (k : Int) < ls.length := by omega
      clear hc hC l3 hb
      go_wp2_with fail
      refine (unhide HLK).mono ?_
      rintro e w1 ⟨rfl, hb1⟩
      have HB1 := hide ((unhide HB).trans (hb1.mono hbs))
      cases hfk : f k with
      | true =>
        have HZ2 := hide (show Z = some k by rw [unhide HZ, rfind_some f _ k hlt (unhide HNO) hfk])
        clear hb1 hfk
        go_wp2
        go_ret2
        exact ⟨by rw [unhide HZ2]; rfl, unhide HB1⟩
      | false =>
        have HNN := hide (show ∀ j, j < k + 1 → f j = false by
          intro j hj
          by_cases hj' : j < k
          · exact unhide HNO j hj'
          · obtain rfl : j = k := by omega
            exact hfk)
        clear hb1 hfk
        go_wp2
        exact ⟨⟨k + 1, by omega, by go_num, unhide HNN, unhide HB1⟩, by simp [intOf]; omega⟩
    · obtain rfl : k = ls.length := by omega
      have HZ2 := hide (show Z = none by rw [unhide HZ, rfind_none f _ (unhide HNO)])
      clear l3 hb
      go_wp2
      go_ret2
      exact ⟨by rw [unhide HZ2]; rfl, unhide HB⟩

set_option maxHeartbeats 1000000 in
theorem pLocks_any (g : Nat) (B : PBx) (w : World) (h : PBoxAt w g B) (hs : B.L.sw.length ≤ 1000) (hr : B.rts.length ≤ 100) (hf : ∀ x, x ∈ B.rts → x.freed ≤ 1000) :
    Calls Tryz.prog 45 #[.pointer (some ⟨g, 0, none⟩)] w fun e w' => e = .returned (.string (natsStr B.locksT)) ∧ Below w.heap.size w w' := by
  have HLB := hide (fun (s : Nat) (wz : World) (hz : Below w.heap.size w wz) => lockedBy_any g B s wz (h.below hz) (by omega) hf)
  have HR := hide (show ∀ s r, B.lockedBy s = some r → r < 100 by
    intro s r he
    unfold PBx.lockedBy at he
    have := List.mem_range.1 (List.mem_of_find?_eq_some he)
    omega)
  obtain ⟨vs, vr, vt, vl, vw, va, vq, hB, ⟨_, _, _, he, hS, -, -⟩, -⟩ := h
  simp only [Value.agg.injEq, Array.mk.injEq, List.cons.injEq, and_true, true_and] at he
  obtain ⟨rfl, rfl, rfl⟩ := he
  obtain ⟨ao, cap, rfl, -, hm, -⟩ := SlAt.open hS
  obtain ⟨⟨-, -, -, q3, -⟩, -, qg⟩ := box10 hB
  unfold PBx.locksT
  generalize B.lockedBy = f at *
  generalize B.L.sw = l at *
  unfold maxLen at hm
  clear hS hB hf
  obtain ⟨i0, hi0⟩ := info_parts Tryz.infoByte
  have HIB := hide hi0
  clear hi0
  go_enter Tryz.func45, Tryz.ntmps45
  go_wp2
  go_loopw [3, 13] (fun d i wr => ∃ k : Nat, k ≤ l.length ∧ i = .int .i64 k ∧ wr.ownsRow w.heap.size 5 1 d k (bytsV ((List.range k).map (fun s => lockC (f s)))) ∧ Below w.heap.size w wr) (fun _ i _ => l.length - (intOf i).toNat)
  case atStart => exact ⟨0, Nat.zero_le _, rfl, World.ownsRow_nil _ _ _ _, Below.refl _ _⟩
  case round =>
    obtain ⟨k, hk, rfl, hown, hb⟩ := hrel
    have HB := hide hb
    have hbs := hb.size
    by_cases hlt : k < l.length
    · have l1 : (k : Int) < l.length := by omega
      obtain ⟨ah, ch, hvh⟩ := slice_of_own hown
      subst hvh
      clear hb
      go_wp2_with fail
      refine (unhide HLB k wr (unhide HB)).mono ?_
      rintro e w1 ⟨rfl, hb1⟩
      have hown1 := ownsRow_below hown hb1
      have hb2 := (unhide HB).trans (hb1.mono hbs)
      have hbs2 := hb2.size
      have HB2 := hide hb2
      have HRK := hide (unhide HR k)
      have HSN := hide (show bytsV ((List.range (k + 1)).map (fun s => lockC (f s))) = bytsV ((List.range k).map (fun s => lockC (f s))) ++ [.int .u8 (lockC (f k) : Nat)] by
        rw [List.range_succ, List.map_append]; exact bytsV_snoc _ _)
      clear hb1 hown hb2
      generalize f k = o at *
      cases o with
      | none =>
        go_wp2_with (at_builtin; refine wpList_append_own _ rfl _ _ 75 rfl w.heap.size 5 i0 (.int .u8 0) 1 1 Tryz.underlying75 (unhide HIB).1 (unhide HIB).2.1 (unhide HIB).2.2.1 (unhide HIB).2.2.2 rfl (by decide) _ _ _ rfl (hown1.alloc _) ⟨w1.heap.size, 0, none⟩ 1 1 [.int .u8 46] rfl rfl (one_new _ _ _) (one_cell1 rfl) (by unfold maxLen; omega) (by omega) (by simp; omega) ?_; intro v' w2 hown2 hgrow _)
        exact ⟨⟨k + 1, by omega, by go_num, by rw [unhide HSN]; exact hown2, grow_below (unhide HB2) hbs2 hown1 hgrow⟩, by simp [intOf]; omega⟩
      | some r =>
        have hr1 := unhide HRK r rfl
        have u1 := wrap8 (r : Int) (by omega) (by omega)
        have u2 := wrap8 (65 + (r : Int)) (by omega) (by omega)
        simp only [optN, Option.isSome]
        go_wp2_with (at_builtin; refine wpList_append_own _ rfl _ _ 75 rfl w.heap.size 5 i0 (.int .u8 0) 1 1 Tryz.underlying75 (unhide HIB).1 (unhide HIB).2.1 (unhide HIB).2.2.1 (unhide HIB).2.2.2 rfl (by decide) _ _ _ rfl (hown1.alloc _) ⟨w1.heap.size, 0, none⟩ 1 1 [.int .u8 (65 + (r : Int))] rfl rfl (one_new _ _ _) (one_cell1 rfl) (by unfold maxLen; omega) (by omega) (by simp; omega) ?_; intro v' w2 hown2 hgrow _)
        exact ⟨⟨k + 1, by omega, by go_num, by rw [unhide HSN]; simpa [lockC] using hown2, grow_below (unhide HB2) hbs2 hown1 hgrow⟩, by simp [intOf]; omega⟩
    · obtain rfl : k = l.length := by omega
      have hcv := byts_str (Byts.ofOwn hown (by simp))
      obtain ⟨ah, ch, hvh⟩ := slice_of_own hown
      subst hvh
      clear hown hb
      go_wp2
      go_ret
      exact ⟨rfl, unhide HB⟩

set_option maxHeartbeats 1000000 in
theorem pPhases_any (g : Nat) (B : PBx) (w : World) (h : PBoxAt w g B) (hr : B.rts.length ≤ 1000) :
    Calls Tryz.prog 46 #[.pointer (some ⟨g, 0, none⟩)] w fun e w' => e = .returned (.string (natsStr B.phasesT)) ∧ Below w.heap.size w w' := by
  obtain ⟨vs, vr, vt, vl, vw, va, vq, hB, -, hL, -⟩ := h
  obtain ⟨al, cl, rfl, -, hml, l3⟩ := SlAt.open hL
  obtain ⟨⟨-, -, -, -, -, -, q6, -⟩, -, qg⟩ := box10 hB
  unfold PBx.phasesT
  generalize B.rts = l at *
  unfold maxLen at hml
  clear hL hB
  obtain ⟨i0, hi0⟩ := info_parts Tryz.infoByte
  have HIB := hide hi0
  clear hi0
  go_enter Tryz.func46, Tryz.ntmps46
  go_wp2
  go_loopw [3, 11] (fun d i wr => ∃ k : Nat, k ≤ l.length ∧ i = .int .i64 k ∧ wr.ownsRow w.heap.size 5 1 d k (bytsV ((l.take k).map (·.ph))) ∧ Below w.heap.size w wr) (fun _ i _ => l.length - (intOf i).toNat)
  case atStart => exact ⟨0, Nat.zero_le _, rfl, World.ownsRow_nil _ _ _ _, Below.refl _ _⟩
  case round =>
    obtain ⟨k, hk, rfl, hown, hb⟩ := hrel
    have HB := hide hb
    have hbs := hb.size
    by_cases hlt : k < l.length
    · have l1 : (k : Int) < l.length := by omega
      obtain ⟨ah, ch, hvh⟩ := slice_of_own hown
      subst hvh
      obtain ⟨gl, ol, hal, hgl, cs, -, hC, hc⟩ := l3 k hlt
      subst hal
      obtain ⟨vp, vf, vm, hcs, p1, p2, p3⟩ := hC
      subst hcs
      obtain ⟨a1, d1, rfl, -⟩ := SlAt.open p1
      obtain ⟨a2, d2, rfl, -⟩ := SlAt.open p2
      obtain ⟨a3, d3, rfl, -⟩ := SlAt.open p3
      have c0 := hc 0 (by omega)
      have c1 := hc 1 (by omega)
      have c2 := hc 2 (by omega)
      have c3 := hc 3 (by omega)
      have c4 := hc 4 (by omega)
      have c5 := hc 5 (by omega)
      have c6 := hc 6 (by omega)
      rw [← hb.cell (p := ⟨gl, _, none⟩) hgl] at c0 c1 c2 c3 c4 c5 c6
      simp at c0 c1 c2 c3 c4 c5 c6
      have HSN := hide (show bytsV ((l.take (k + 1)).map (·.ph)) = bytsV ((l.take k).map (·.ph)) ++ [.int .u8 (l[k].ph : Nat)] by
        rw [map_take_succ _ _ _ hlt]; exact bytsV_snoc _ _)
      clear hb hc p1 p2 p3 l3
      generalize l[k].ph = ph at *
      go_wp2_with (at_builtin; refine wpList_append_own _ rfl _ _ 75 rfl w.heap.size 5 i0 (.int .u8 0) 1 1 Tryz.underlying75 (unhide HIB).1 (unhide HIB).2.1 (unhide HIB).2.2.1 (unhide HIB).2.2.2 rfl (by decide) _ _ _ rfl ((hown.alloc _).alloc _) ⟨wr.heap.size + 1, 0, none⟩ 1 1 [.int .u8 (ph : Nat)] rfl rfl (cells_new_at _ [.int .u8 (ph : Nat)] _ _ (by simp)) (one_cell1 rfl) (by unfold maxLen; omega) (by omega) (by simp; omega) ?_; intro v' w2 hown2 hgrow _)
      exact ⟨⟨k + 1, by omega, by go_num, by rw [unhide HSN]; exact hown2, grow_below ((unhide HB).alloc hbs _) (by simp; omega) (hown.alloc _) hgrow⟩, by simp [intOf]; omega⟩
    · obtain rfl : k = l.length := by omega
      rw [List.take_length] at hown
      have hcv := byts_str (Byts.ofOwn hown (by simp))
      obtain ⟨ah, ch, hvh⟩ := slice_of_own hown
      subst hvh
      clear hown hb l3
      go_wp2
      go_ret
      exact ⟨rfl, unhide HB⟩

set_option maxHeartbeats 1000000 in
theorem pSwitches_any (g : Nat) (B : PBx) (w : World) (h : PBoxAt w g B) (hl : B.wanted.length ≤ 1000) :
    Calls Tryz.prog 47 #[.pointer (some ⟨g, 0, none⟩)] w fun e w' => e = .returned (.string (natsStr B.switchesT)) ∧ Below w.heap.size w w' := by
  obtain ⟨vs, vr, vt, vl, vw, va, vq, hB, hCL, -, hW, -⟩ := h
  have HHS := hide (fun (s : Nat) (wz : World) (hz : Below w.heap.size w wz) => HasSwitch_any _ B.L s wz (hCL.below hz))
  obtain ⟨_, _, _, he, hS, hR, hT⟩ := hCL
  simp only [Value.agg.injEq, Array.mk.injEq, List.cons.injEq, and_true, true_and] at he
  obtain ⟨rfl, rfl, rfl⟩ := he
  obtain ⟨a1, d1, rfl, -⟩ := SlAt.open hS
  obtain ⟨a2, d2, rfl, -⟩ := SlAt.open hR
  obtain ⟨a3, d3, rfl, -⟩ := SlAt.open hT
  obtain ⟨aw, cw, rfl, -, hmw, h3⟩ := SlAt.open hW
  obtain ⟨⟨q0, q1, q2, q3, q4, q5, -, q7, -⟩, -, qg⟩ := box10 hB
  have HT := hide (show ∀ k (h : k < B.wanted.length), B.swT k = if B.L.sw.getD k false then [B.wanted[k]] else [] by
    intro k h
    unfold PBx.swT
    rw [show B.wanted.getD k 0 = B.wanted[k] by rw [List.getD_eq_getElem?_getD, List.getElem?_eq_getElem h]; rfl])
  have hle := flat_le B.swT (by intro s; unfold PBx.swT; split <;> simp)
  unfold PBx.switchesT
  generalize B.swT = f at *
  generalize B.wanted = l at *
  unfold maxLen at hmw
  have HLE := hide hle
  clear hS hR hT hW hB hle
  obtain ⟨i0, hi0⟩ := info_parts Tryz.infoByte
  have HIB := hide hi0
  clear hi0
  go_enter Tryz.func47, Tryz.ntmps47
  go_wp2
  go_loopw [3, 11] (fun d i wr => ∃ k n : Nat, k ≤ l.length ∧ i = .int .i64 k ∧ n = ((List.range k).flatMap f).length ∧ wr.ownsRow w.heap.size 5 1 d n (bytsV ((List.range k).flatMap f)) ∧ Below w.heap.size w wr) (fun _ i _ => l.length - (intOf i).toNat)
  case atStart => exact ⟨0, 0, Nat.zero_le _, rfl, rfl, World.ownsRow_nil _ _ _ _, Below.refl _ _⟩
  case round =>
    obtain ⟨k, n, hk, rfl, hn, hown, hb⟩ := hrel
    have HB := hide hb
    have hbs := hb.size
    have hnk := unhide HLE k
    rw [← hn] at hnk
    have HN := hide hn
    clear hn
    by_cases hlt : k < l.length
    · have l1 : (k : Int) < l.length := by omega
      obtain ⟨ah, ch, hvh⟩ := slice_of_own hown
      subst hvh
      obtain ⟨gl, ol, hal, hgl, cs, -, hC, hc⟩ := h3 k hlt
      subst hal
      unfold CByte at hC
      subst hC
      have c0 := hc 0 (by omega)
      rw [← hb.cell (p := ⟨gl, _, none⟩) hgl] at c0
      simp at c0
      rw [← hb.cell (p := ⟨g, _, none⟩) qg] at q0 q1 q2 q3 q4 q5
      have HSN := hide (swT_snoc f k)
      rw [unhide HT k hlt] at HSN
      clear hb hc h3
      generalize l[k] = x at *
      go_wp2_with fail
      refine (unhide HHS k wr (unhide HB)).mono ?_
      rintro e w1 ⟨rfl, hb1⟩
      have hown1 := ownsRow_below hown hb1
      have hb2 := (unhide HB).trans (hb1.mono hbs)
      have hbs2 := hb2.size
      have HB2 := hide hb2
      clear hb1 hown hb2 q0 q1 q2 q3 q4 q5 c0
      generalize B.L.sw.getD k false = b at *
      cases b with
      | false =>
        go_wp2
        exact ⟨⟨k + 1, n, by omega, by go_num, by rw [unhide HSN]; simpa using unhide HN, by rw [unhide HSN]; simpa using hown1, unhide HB2⟩, by simp [intOf]; omega⟩
      | true =>
        go_wp2_with (at_builtin; refine wpList_append_own _ rfl _ _ 75 rfl w.heap.size 5 i0 (.int .u8 0) 1 1 Tryz.underlying75 (unhide HIB).1 (unhide HIB).2.1 (unhide HIB).2.2.1 (unhide HIB).2.2.2 rfl (by decide) _ _ _ rfl (hown1.alloc _) ⟨w1.heap.size, 0, none⟩ 1 1 [.int .u8 (x : Nat)] rfl rfl (one_new _ _ _) (one_cell1 rfl) (by unfold maxLen; omega) (by omega) (by simp; omega) ?_; intro v' w2 hown2 hgrow _)
        exact ⟨⟨k + 1, n + 1, by omega, by go_num, by rw [unhide HSN]; simp [← unhide HN], by rw [unhide HSN]; simpa [bytsV] using hown2, grow_below (unhide HB2) hbs2 hown1 hgrow⟩, by simp [intOf]; omega⟩
    · obtain rfl : k = l.length := by omega
      have hcv := byts_str (Byts.ofOwn hown (unhide HN))
      obtain ⟨ah, ch, hvh⟩ := slice_of_own hown
      subst hvh
      clear hown hb h3
      go_wp2
      go_ret
      exact ⟨rfl, unhide HB⟩

set_option maxHeartbeats 1000000 in
theorem pAt_any (g : Nat) (B : PBx) (w : World) (h : PBoxAt w g B) (hl : B.sta.length ≤ 1000) (h9 : ∀ t, t ∈ B.sta → t < 10) :
    Calls Tryz.prog 48 #[.pointer (some ⟨g, 0, none⟩)] w fun e w' => e = .returned (.string (natsStr B.stateT)) ∧ w' = w := by
  obtain ⟨vs, vr, vt, vl, vw, va, vq, hB, -, -, -, hI, -⟩ := h
  obtain ⟨ag, cg, rfl, h1, h2, h3⟩ := SlAt.open hI
  obtain ⟨⟨-, -, -, -, -, -, -, -, q8, -⟩, -, qg⟩ := box10 hB
  unfold PBx.stateT
  generalize B.sta = l at *
  unfold maxLen at h2
  have HT := hide h9
  clear hB hI h9
  go_enter Tryz.func48, Tryz.ntmps48
  go_wp2
  go_loopw [3, 11] (fun d i wr => ∃ k : Nat, k ≤ l.length ∧ i = .int .i64 k ∧ d = .string (natsStr ((l.take k).map (48 + ·))) ∧ wr = w) (fun _ i _ => l.length - (intOf i).toNat)
  case atStart => exact ⟨0, Nat.zero_le _, rfl, rfl, rfl⟩
  case round =>
    obtain ⟨k, hk, rfl, rfl, rfl⟩ := hrel
    have hsz := natsStr_size ((l.take k).map (48 + ·))
    rw [List.length_map, List.length_take, Nat.min_eq_left hk] at hsz
    obtain ⟨p, hp⟩ : ∃ p, p = natsStr ((l.take k).map (48 + ·)) := ⟨_, rfl⟩
    rw [← hp] at hsz ⊢
    have HP := hide hp
    clear hp
    by_cases hlt : k < l.length
    · obtain ⟨gl, off, hao, hg, cs, -, hC, hc⟩ := h3 k hlt
      subst hao
      unfold CInt at hC
      subst hC
      have hc0 := hc 0 (by omega)
      simp at hc0
      have h9 := unhide HT _ (List.getElem_mem hlt)
      have HS := hide (show natsStr ((l.take (k + 1)).map (48 + ·)) = p ++ ⟨#[UInt8.ofNat (48 + l[k])]⟩ by
        rw [unhide HP, map_take_succ _ _ _ hlt, natsStr_snoc])
      clear hc h3
      generalize l[k] = t at *
      go_wp2_with (go_at_call 88; refine (Itoa_any t _ h9).mono ?_; rintro e w' ⟨rfl, rfl⟩)
      exact ⟨⟨k + 1, by omega, by go_num, by first | (rw [unhide HS]; done) | (rw [unhide HS]; simp; done), by trivial⟩, by simp [intOf]; omega⟩
    · obtain rfl : k = l.length := by omega
      rw [List.take_length] at HP
      clear h3
      go_wp2
      go_ret
      exact ⟨by first | (rw [unhide HP]; done) | (rw [← unhide HP]; rfl), rfl⟩

set_option maxHeartbeats 400000 in
theorem pQueue_any (g : Nat) (B : PBx) (w : World) (h : PBoxAt w g B) (hl : B.waits.length ≤ 1000) (h9 : ∀ t, t ∈ B.waits → t < 9) :
    Calls Tryz.prog 49 #[.pointer (some ⟨g, 0, none⟩)] w fun e w' => e = .returned (.string (ordStr B.waits)) ∧ w' = w := by
  obtain ⟨vs, vr, vt, vl, vw, va, vq, hB, -, -, -, -, hI⟩ := h
  have H := hide (digits_any vq B.waits w hI h9 hl)
  obtain ⟨ag, cg, rfl, -⟩ := SlAt.open hI
  obtain ⟨⟨-, -, -, -, -, -, -, -, -, q9⟩, -, qg⟩ := box10 hB
  generalize B.waits = l at *
  clear hB hI h9
  go_enter Tryz.func49, Tryz.ntmps49
  go_wp2_with fail
  refine (unhide H).mono ?_
  rintro e w1 ⟨rfl, rfl⟩
  go_wp2
  go_ret
  exact ⟨rfl, rfl⟩
end Go.Proofs.YtjahcgpokdhgmaaGreatDoor
