import Derived.Test.YtkbpocecbcaiiabGreatDoorO2
namespace Go.Proofs.YtkbpocecbcaiiabGreatDoor
open Go.RowKit
def z47 (l : List UInt8) : Rt :=
 ⟨(l.getD 0 0).toNat - 97, marksF ((z0v 33 [] (l.drop 2)).getD 0 []), marksF (((z0v 33 [] (l.drop 2)).drop 1).getD 0 [])⟩
theorem splitA_ne (c : UInt8) (pre l : List UInt8) : z0v c pre l ≠ [] := by
 induction l generalizing pre with
 | nil => simp [z0v]
 | cons x l ih => unfold z0v; split <;> simp [ih]
theorem z4l (c : UInt8) (pre l : List UInt8) : ∀ p, p ∈ z0v c pre l -> p.length <= pre.length + l.length := by
 induction l generalizing pre with
 | nil => intro p hp; simp [z0v] at hp; subst hp; simp
 | cons x l ih =>
  intro p hp
  unfold z0v at hp
  split at hp
  ·rcases List.mem_cons.1 hp with h | h
   ·subst h; simp
   ·have := ih [] p h; simp at this ⊢; omega
  ·have := ih _ p hp; simp at this ⊢; omega
set_option maxHeartbeats 1000000 in
theorem route_lo (s : ByteArray) (w : World) (h2 : 2 <= s.size) (hs : s.size <= 1000) (h97 : 97 <= (s.data.toList.getD 0 0).toNat) :
  Calls Tryz.prog 137 #[.string s] w fun e w' => ∃ vp vs vf vl, e = .returned (.agg #[.int .i64 (z47 s.data.toList).foot, vp, vs, vf, vl]) /\ CRRt w' (z47 s.data.toList) [.int .i64 (z47 s.data.toList).foot, vp, vs, vf, vl] /\ Below w.heap.size w w' /\ LoC w.heap.size [.int .i64 (z47 s.data.toList).foot, vp, vs, vf, vl] := by
 have HC0 := zh (show s[0] = s.data.toList.getD 0 0 by rw [List.getD_eq_getElem?_getD, List.getElem?_eq_getElem (by simp; omega)]; rfl)
 obtain ⟨c, hce⟩ : ∃ c, s[0].toNat = c := ⟨_, rfl⟩
 have hc256 : c < 256 := by rw [<- hce]; exact s[0].toNat_lt
 rw [<- uh HC0, hce] at h97
 have HFT := zh (show (z47 s.data.toList).foot = c - 97 by rw [z47, <- uh HC0, hce])
 have HE := zh (show (s.extract 2 s.size).data.toList = s.data.toList.drop 2 by
  rw [z3d, List.take_of_length_le (by simp)])
 have hes : (s.extract 2 s.size).size <= 1000 := by
  have := congrArg List.length (uh HE)
  simp at this
  show (s.extract 2 s.size).data.size <= 1000
  simp; omega
 obtain ⟨P, hP⟩ : ∃ P, P = z0v 33 [] (s.data.toList.drop 2) := ⟨_, rfl⟩
 have HP := zh hP
 have hPl : ∀ p, p ∈ P -> p.length <= 1000 := by
  intro p hp; rw [hP] at hp
  have := z4l _ _ _ p hp
  simp at this; omega
 have hP0 : 0 < P.length := by rw [hP]; exact List.length_pos_iff.2 (splitA_ne _ _ _)
 have HPP := zh (show (z47 s.data.toList).path = marksF (P[0]'hP0) by
  rw [z47, <- hP]
  show marksF (P.getD 0 []) = _
  rw [List.getD_eq_getElem?_getD, List.getElem?_eq_getElem hP0]; rfl)
 have HFF := zh (show (z47 s.data.toList).flank = marksF ((P.drop 1).getD 0 []) by rw [z47, <- hP])
 clear hP
 generalize z47 s.data.toList = R at *
 go_enter Tryz.func137, Tryz.ntmps137
 go_wp2_with fail
 refine (split_any _ 33 _ hes).mono ?_
 rw [uh HE, <- uh HP]
 rintro e w1 ⟨v1, rfl, hS1, hb1⟩
 obtain ⟨ao, cap, rfl, b1, b2, b3⟩ := SlAt.open hS1
 obtain ⟨g, off, rfl, hg, cs, -, hC, hc⟩ := b3 0 hP0
 unfold CStr at hC
 subst hC
 have hc0 := hc 0 (by omega)
 simp [strV] at hc0
 have HB1 := zh hb1
 have hz1 := hb1.size
 have HS1 := zh hS1
 clear hb1 hc hS1
 unfold maxLen at b2
 have hml : (⟨(P[0]'hP0).toArray⟩ : ByteArray).size <= 1000 := by
  have := hPl _ (List.getElem_mem hP0)
  show (P[0]'hP0).toArray.size <= 1000
  simpa using this
 have HM0 := zh (marks_lo ⟨(P[0]'hP0).toArray⟩ w1 hml)
 simp only at HM0
 rw [<- uh HPP] at HM0
 go_wp2_with fail
 refine (uh HM0).mono ?_
 rintro e w2 ⟨vp, vs, rfl, hI2, hY2, hb2, hlp, hls⟩
 have HLP := zh (And.intro (hlp.mono (m := w.heap.size) (by simp at hz1; omega)) (hls.mono (m := w.heap.size) (by simp at hz1; omega)))
 clear hlp hls
 have HI2 := zh hI2
 have HY2 := zh hY2
 obtain ⟨aop, capp, rfl, -, -, -⟩ := SlAt.open hI2
 obtain ⟨aos, caps, rfl, -, -, -⟩ := SlAt.open hY2
 have hz2 := hb2.size
 have HB2 := zh hb2
 have hft : (c : Int) - 97 = (R.foot : Int) := by rw [uh HFT]; omega
 have HR := zh hft
 have hbR : Below (w.heap.size + 1) (w.alloc (.cells #[.int .i64 0, .slice none 0 0, .slice none 0 0, .slice none 0 0, .slice none 0 0] 159)) w2 :=
  ((uh HB1).mono (by simp)).trans (hb2.mono (by simp at hz1; omega))
 have HBR := zh hbR
 obtain ⟨⟨z0, z1, z2, z3, z4⟩, ⟨x0, x1, x2, x3, x4⟩, qs⟩ := five hbR
 clear hb2 hI2 hY2 hc0 hft hbR hz1
 by_cases hp1 : 1 < P.length
 ·obtain ⟨g', off', hao, hg', cs2, -, hC2, hd⟩ := b3 1 hp1
  simp only [Option.some.injEq, Addr.mk.injEq, and_true] at hao
  obtain ⟨rfl, rfl⟩ := hao
  unfold CStr at hC2
  subst hC2
  have hd0 := hd 0 (by omega)
  rw [<- (uh HB2).cell (p := ⟨g, _, none⟩) hg] at hd0
  simp [strV] at hd0
  have hgw2 : g < w2.heap.size := by omega
  have hp1' : (1 : Int) < P.length := by omega
  have hml1 : (⟨(P[1]'hp1).toArray⟩ : ByteArray).size <= 1000 := by
   have := hPl _ (List.getElem_mem hp1)
   show (P[1]'hp1).toArray.size <= 1000
   simpa using this
  have HM1 := zh (fun w => marks_lo ⟨(P[1]'hp1).toArray⟩ w hml1)
  simp only at HM1
  rw [show marksF (P[1]'hp1) = R.flank by rw [uh HFF, List.getD_eq_getElem?_getD, List.getElem?_drop, List.getElem?_eq_getElem hp1]; rfl] at HM1
  clear hd b3
  go_wp2_with fail
  refine (uh HM1 _).mono ?_
  rintro e w4 ⟨vf, vl, rfl, hI4, hY4, hb4, hlf, hll⟩
  have HLF := zh (And.intro (hlf.mono (m := w.heap.size) (by simp; omega)) (hll.mono (m := w.heap.size) (by simp; omega)))
  clear hlf hll
  have HI4 := zh hI4
  have HY4 := zh hY4
  obtain ⟨aof, capf, rfl, -, -, -⟩ := SlAt.open hI4
  obtain ⟨aol, capl, rfl, -, -, -⟩ := SlAt.open hY4
  have hbX : Below (w2.heap.size + 1) (w2.alloc (.cells #[.int .i64 ((c : Int) - 97), .slice aop (secs R.path).length capp, .slice aos (signs R.path).length caps, .slice none 0 0, .slice none 0 0] 159)) w4 := hb4.mono (by simp)
  have hbY : Below (w.heap.size + 1) (w.alloc (.cells #[.int .i64 0, .slice none 0 0, .slice none 0 0, .slice none 0 0, .slice none 0 0] 159)) w4 := (uh HBR).trans ((z09 hbX).mono (by omega))
  clear z0 z1 z2 z3 z4 x0 x1 x2 x3 x4 hd0 hI4 hY4 hb4
  obtain ⟨⟨z0, z1, z2, z3, z4⟩, ⟨x0, x1, x2, x3, x4⟩, qs4⟩ := five hbY
  obtain ⟨⟨y0, y1, y2, y3, y4⟩, ⟨f0, f1, f2, f3, f4⟩, qs5⟩ := five hbX
  have hne : w.heap.size ≠ w2.heap.size := by omega
  have hne' : w2.heap.size ≠ w.heap.size := by omega
  have HBX := zh hbX
  have HBY := zh hbY
  clear hbX hbY
  go_wp2
  have hT2 : Typed w4 w2.heap.size 159 := (Typed.new w2 _ _).below (uh HBX) (by omega)
  have hT1 : Typed w4 w.heap.size 159 := (Typed.new w _ _).below (uh HBY) (by omega)
  have hT3 := (hT1.setCell ⟨w2.heap.size, 3, none⟩ (.slice aof (secs R.flank).length capf)).setCell ⟨w2.heap.size, 4, none⟩ (.slice aol (signs R.flank).length capl)
  have hS := store5 hT3 (.int .i64 R.foot) (.slice aop (secs R.path).length capp) (.slice aos (signs R.path).length caps) (.slice aof (secs R.flank).length capf) (.slice aol (signs R.flank).length capl)
  have kS := fun e (he : 159 ≠ e) => ((Keeps.setCell (e := e) ⟨w2.heap.size, 3, none⟩ (.slice aof (secs R.flank).length capf) hT2 he).trans (Keeps.setCell ⟨w2.heap.size, 4, none⟩ (.slice aol (signs R.flank).length capl) (hT2.setCell ⟨w2.heap.size, 3, none⟩ (.slice aof (secs R.flank).length capf)) he)).trans (hS.1 e he)
  have hb9 := ((((z09 (uh HBY)).setCell (p := ⟨w2.heap.size, 3, none⟩) (by show w.heap.size <= w2.heap.size; omega) (.slice aof (secs R.flank).length capf)).setCell (p := ⟨w2.heap.size, 4, none⟩) (by show w.heap.size <= w2.heap.size; omega) (.slice aol (signs R.flank).length capl)).trans (hS.2 _ (Nat.le_refl _)))
  have kX := fun e => Keeps.below (e := e) (z09 (uh HBX))
  rw [uh HR]
  refine bodyPost_ret (v := .agg #[.int .i64 R.foot, .slice aop (secs R.path).length capp, .slice aos (signs R.path).length caps, .slice aof (secs R.flank).length capf, .slice aol (signs R.flank).length capl]) (by simp [results, Tryz.results137, go_sem, z0, z1, z2, z3, z4]) rfl ?_
  refine ⟨_, _, _, _, rfl, ⟨_, _, _, _, rfl, ((uh HI2).keep (kX _)).keep (kS _ (by decide)), ((uh HY2).keep (kX _)).keep (kS _ (by decide)), (uh HI4).keep (kS _ (by decide)), (uh HY4).keep (kS _ (by decide))⟩, hb9, lo5 (uh HLP) (uh HLF)⟩
 ·have hp1' : ¬ (1 : Int) < P.length := by omega
  have hfl : R.flank = [] := by
   rw [uh HFF, List.getD_eq_getElem?_getD, List.getElem?_drop, List.getElem?_eq_none (by omega)]; rfl
  have HFL := zh hfl
  clear b3 hfl
  go_wp2
  have hT : Typed w2 w.heap.size 159 := (Typed.new w _ _).below (uh HBR) (by omega)
  have hS := store5 hT (.int .i64 R.foot) (.slice aop (secs R.path).length capp) (.slice aos (signs R.path).length caps) (.slice none 0 0) (.slice none 0 0)
  have k3 := fun o => (hS.1 3 (by decide)).trans (Keeps.below (z01 _ o))
  have k5 := fun o => (hS.1 5 (by decide)).trans (Keeps.below (z01 _ o))
  have hb9 := fun o => (((z09 (uh HBR)).trans (hS.2 _ (Nat.le_refl _))).alloc (B := w.heap.size) (by simp [World.setCell]; omega) o)
  rw [uh HR]
  refine bodyPost_ret (v := .agg #[.int .i64 R.foot, .slice aop (secs R.path).length capp, .slice aos (signs R.path).length caps, .slice none 0 0, .slice none 0 0]) (by simp [results, Tryz.results137, go_sem, z0, z1, z2, z3, z4, qs]) rfl ?_
  refine ⟨_, _, _, _, rfl, ⟨_, _, _, _, rfl, (uh HI2).keep (k3 _), (uh HY2).keep (k5 _), ?_, ?_⟩, hb9 _, lo5 (uh HLP) ⟨Lo.nil _ _ _, Lo.nil _ _ _⟩⟩
  ·rw [uh HFL]; exact SlAt.nil _ _ _ _
  ·rw [uh HFL]; exact SlAt.nil _ _ _ _
end Go.Proofs.YtkbpocecbcaiiabGreatDoor
