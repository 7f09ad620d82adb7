import Derived.Test.YtkbpocecbcaiiaaGreatDoorG13
import Derived.Deep.AppendLies
import Derived.Test.YtkbpocecbcaiiaaGreatDoorG11
import Derived.Test.YtkbpocecbcaiiaaGreatDoorG10
import Derived.Test.YtkbpocecbcaiiaaGreatDoorG8
import Derived.Test.YtkbpocecbcaiiaaGreatDoorG5
/-
  THE WALK OVER safety.Order.
-/
namespace Go.Proofs.YtkbpocecbcaiiaaGreatDoor
open Go.RowKit

def St0 : St := ⟨false, 0, []⟩
def markD (l : List St) (i : Nat) : List St := l.set i ⟨true, (l.getD i ⟨false, 0, []⟩).holds, (l.getD i ⟨false, 0, []⟩).ahead⟩
def orderL : Nat → List St → List Nat × List St
  | 0, l => ([], l)
  | f + 1, l => match firstL l with
    | none => ([], l)
    | some i => (i :: (orderL f (markD l i)).1, (orderL f (markD l i)).2)
def undoneS (l : List St) : Nat := (l.filter (fun x => !x.done)).length
theorem firstL_some {l : List St} {i : Nat} (h : firstL l = some i) : ∃ hi : i < l.length, l[i].done = false ∧ mayRunL l i = true := by
  unfold firstL at h
  have hm := List.mem_of_find?_eq_some h
  have hp := List.find?_some h
  have hi := List.mem_range.1 hm
  refine ⟨hi, ?_⟩
  rw [stD l i hi] at hp
  simpa using hp
theorem undoneS_set : ∀ (l : List St) (i : Nat) (hi : i < l.length) (x : St), l[i].done = false → x.done = true → undoneS (l.set i x) + 1 = undoneS l
  | [], i, hi, _, _, _ => by simp at hi
  | a :: l, 0, _, x, h, hx => by
    simp at h
    simp [undoneS, h, hx]
  | a :: l, i + 1, hi, x, h, hx => by
    have ih := undoneS_set l i (by simpa using hi) x (by simpa using h) hx
    unfold undoneS at ih ⊢
    simp only [List.set_cons_succ, List.filter_cons]
    cases a.done <;> simp <;> omega
theorem undoneS_mark {l : List St} {i : Nat} (h : firstL l = some i) : undoneS (markD l i) + 1 = undoneS l := by
  obtain ⟨hi, hd, -⟩ := firstL_some h
  exact undoneS_set l i hi _ hd rfl
theorem markD_len (l : List St) (i : Nat) : (markD l i).length = l.length := by simp [markD]
theorem undoneS_le (l : List St) : undoneS l ≤ l.length := List.length_filter_le _ _

theorem keepsB {w1 wr w3 : World} {o : Obj} {v : Value} {n : Nat} {xs : List Value} (hK : Keeps 3 w1 wr) (hle : w1.heap.size ≤ wr.heap.size) (hown : wr.ownsRow w1.heap.size 3 1 v n xs)
    (hg : (wr.alloc o).grownBy w3 v.ownBlock) : Keeps 3 w1 w3 := by
  intro g cur fr h
  have hlt := blk_lt h
  rw [← hK g cur fr h, hg.block g (by simp; omega) ?_, Below.heap_alloc _ _ _ (by omega)]
  intro e
  have := (hown.lt g e.symm).1
  omega
theorem flatten_set (css : List (List Value)) (sz : Nat) (hl : ∀ c, c ∈ css → c.length = sz) : ∀ (i j : Nat) (hi : i < css.length) (u : Value), j < sz → css.flatten.set (i * sz + j) u = (css.set i (css[i].set j u)).flatten := by
  induction css with
  | nil => intro i j hi; simp at hi
  | cons c css ih =>
    intro i j hi u hj
    have hc := hl c (by simp)
    cases i with
    | zero => simp; rw [List.set_append_left _ _ (by omega)]
    | succ i =>
      have := ih (fun c hc => hl c (List.mem_cons_of_mem _ hc)) i j (by simpa using hi) u hj
      simp only [List.flatten_cons, List.set_cons_succ, List.getElem_cons_succ]
      rw [List.set_append_right _ _ (by rw [hc, Nat.succ_mul]; omega), hc, ← this]
      congr 2
      rw [Nat.succ_mul]; omega
theorem All2.set {α β : Type} {R : α → β → Prop} {a : α} {b : β} (h : R a b) : ∀ {l : List α} {m : List β} (i : Nat), All2 R l m → All2 R (l.set i a) (m.set i b)
  | [], [], _, _ => trivial
  | _ :: _, _ :: _, 0, hh => ⟨h, hh.2⟩
  | _ :: _, _ :: _, i + 1, hh => ⟨hh.1, All2.set h i hh.2⟩
  | [], _ :: _, _, hh => hh.elim
  | _ :: _, [], _, hh => hh.elim

set_option maxHeartbeats 1000000 in
theorem sOrder_any (v va : Value) (L : Lay) (at_ : List Nat) (w : World) (h : CLay w v L) (ha : Ints w va at_) (hla : at_.length = L.tns.length) (hp : L.Paths) (hj : L.Jnys)
    (hn : L.tns.length ≤ 1000) (hl : ∀ t, t ∈ L.tns → t.jny.length ≤ 1000) (hpl : ∀ r, r ∈ L.rts → r.path.length ≤ 1000) (hg : ∀ g, g ∈ at_ → g ≤ 1000) :
    Calls Tryz.prog 112 #[v, va] w fun e w' => ∃ (a : Option Addr) (m c : Nat), e = .returned (.tuple #[.slice a m c, .bool ((orderL L.tns.length (L.stsAt at_)).2.all (·.done))]) ∧
      ((orderL L.tns.length (L.stsAt at_)).2.all (·.done) = true → Ints w' (.slice a m c) (orderL L.tns.length (L.stsAt at_)).1) ∧ Below w.heap.size w w' := by
  have H1 := hide (fun (wz : World) (hz : Below w.heap.size w wz) => trainsAt_any v va L at_ wz (h.below hz) (ha.below hz) hla hp hj hn hl hpl hg)
  obtain ⟨i0, hi0⟩ := info_parts Tryz.infoInt
  have HI := hide hi0
  obtain ⟨vs, vr, vtt, rfl, -, -, -⟩ := h
  obtain ⟨aoa, capa, rfl, -, -, -⟩ := SlAt.open ha
  have HLA := hide hla
  clear ha hp hi0 hj hpl hl hg hla
  go_enter Tryz.func112, Tryz.ntmps112
  obtain ⟨Z, hZ⟩ : ∃ Z, Z = orderL L.tns.length (L.stsAt at_) := ⟨_, rfl⟩
  rw [← hZ]
  have HZ := hide hZ
  clear hZ
  go_wp2_with fail
  refine (unhide H1 _ (below_alloc _ _)).mono ?_
  rintro e w1 ⟨a, c, css0, rfl, hown0, hA0, hcl0, hb0⟩
  have hlen : (L.stsAt at_).length = L.tns.length := by simp [Lay.stsAt]
  generalize L.stsAt at_ = l0 at *
  have hb1 : Below w.heap.size w w1 := (below_alloc w _).trans (hb0.mono (by simp))
  have HS0 := hide (SlAt.ofOwnN hown0 hA0 hcl0 hlen.symm : Sts w1 (.slice a L.tns.length c) l0)
  have HF0 := hide (And.intro hown0 (And.intro hA0 (And.intro hcl0 (And.intro hb1 hlen))))
  have HR0 := hide (firstToRun_any _ l0 w1 (unhide HS0) (by omega))
  clear hown0 hA0 hcl0 hb0 hb1 H1 hlen
  go_wp2_with fail
  refine (unhide HR0).mono ?_
  rintro e w2 ⟨rfl, hb2⟩
  have HB2 := hide hb2
  clear hb2
  go_wp2
  have hw1 : w.heap.size ≤ w1.heap.size := (unhide HF0).2.2.2.1.size
  go_loopg [7, 8, 9] L.tns.length (fun f vo vn vf wr => ∃ (l : List St) (css : List (List Value)) (acc : List Nat), l.length = L.tns.length ∧ undoneS l ≤ f ∧ vn = (firstV (firstL l)).1 ∧ vf = .bool (firstV (firstL l)).2 ∧
      wr.ownsRow w.heap.size 223 3 (.slice a L.tns.length c) L.tns.length css.flatten ∧ All2 (CSt w1) l css ∧ (∀ c, c ∈ css → c.length = 3) ∧ Keeps 3 w1 wr ∧ w1.heap.size ≤ wr.heap.size ∧
      wr.ownsRow w1.heap.size 3 1 vo acc.length (intsV acc) ∧ acc.length + undoneS l ≤ L.tns.length ∧ Z = (acc ++ (orderL f l).1, (orderL f l).2) ∧ Below w.heap.size w wr)
  case atStart =>
    obtain ⟨f1, f2, f3, f4, f5⟩ := unhide HF0
    have hu := undoneS_le l0
    refine ⟨l0, css0, [], f5, by omega, rfl, rfl, (ownsRow_below f1 (unhide HB2)).mono (by simp), f2, f3, Keeps.below (unhide HB2), (unhide HB2).size, World.ownsRow_nil _ _ _ _, by simp; omega, by rw [unhide HZ]; rfl, f4.trans ((unhide HB2).mono f4.size)⟩
  case round =>
    clear HF0 HB2 HR0 HS0 HZ
    obtain ⟨l, css, acc, hll, hu, rfl, rfl, hown, hA, hcl, hK, hsz, hownI, hlen, hZ, hb⟩ := hrel
    obtain ⟨ai, ci, hvo⟩ := slice_of_own hownI
    subst hvo
    have HLL := hide hll
    clear hll
    cases hf : firstL l with
    | none =>
      have HZ2 := hide (show Z = (acc, l) by rw [hZ]; cases gk <;> simp [orderL, hf])
      have HS := hide (SlAt.ofOwnN hown (All2.mono (fun _ _ h => h.keep hK) hA) hcl (unhide HLL).symm : Sts wr (.slice a L.tns.length c) l)
      have HR := hide (allDone_any _ l wr (unhide HS))
      have HFI := hide (Ints.ofOwn hownI rfl)
      have HB := hide hb
      clear hown hA hcl hK hZ hb hownI hf
      obtain ⟨dn, hdn⟩ : ∃ dn, dn = l.all (·.done) := ⟨_, rfl⟩
      rw [← hdn] at HR
      have HDN := hide hdn
      clear hdn
      go_wp2_with fail
      refine (unhide HR).mono ?_
      rintro e w3 ⟨rfl, hb3⟩
      have HBB := hide ((unhide HB).trans (hb3.mono (unhide HB).size))
      have HFI3 := hide ((unhide HFI).below hb3)
      clear hb3
      cases dn with
      | false =>
        go_wp2
        go_ret2
        exact ⟨none, 0, 0, by rw [unhide HZ2, ← unhide HDN]; rfl, fun h => absurd h (by rw [unhide HZ2, ← unhide HDN]; simp), unhide HBB⟩
      | true =>
        go_wp2
        go_ret2
        exact ⟨ai, acc.length, ci, by rw [unhide HZ2, ← unhide HDN]; rfl, fun _ => by rw [unhide HZ2]; exact unhide HFI3, unhide HBB⟩
    | some i =>
      obtain ⟨hi, hd, -⟩ := firstL_some hf
      have hum := undoneS_mark hf
      obtain ⟨f, hfe⟩ : ∃ f, gk = f + 1 := ⟨gk - 1, by omega⟩
      subst hfe
      have HZ2 := hide (show Z = ((acc ++ [i]) ++ (orderL f (markD l i)).1, (orderL f (markD l i)).2) by rw [hZ]; simp [orderL, hf])
      have hi' : i < L.tns.length := by rw [← unhide HLL]; exact hi
      have hcs : i < css.length := by rw [← hA.length]; exact hi
      obtain ⟨g, hg0⟩ : ∃ g, a = some ⟨g, 0, none⟩ := by
        rcases hown.2 with ⟨h', _⟩ | ⟨g', cap', cur, h', _⟩
        · simp at h'; omega
        · simp at h'; exact ⟨g', h'.1⟩
      subst hg0
      have hci : css[i].length = 3 := hcl _ (List.getElem_mem _)
      have hAi := hA.get i hi hcs
      obtain ⟨vah, hcsi, hInt⟩ := hAi
      have hc0 := hown.cellAt (i * 3 + 0) (by omega)
      rw [flatten_get css 3 hcl i 0 hcs (by omega), hcsi] at hc0
      simp at hc0
      have hz0 := hown.frozenAt (i * 3)
      have hst := hown.stored (i * 3 + 0) (.bool true)
      rw [flatten_set css 3 hcl i 0 hcs _ (by omega), hcsi] at hst
      simp only [List.set_cons_zero, Nat.add_zero] at hst
      have hgl := (hown.lt g rfl)
      have hT : Typed wr g 223 := by
        rcases hown.2 with ⟨h', _⟩ | ⟨g', cap', cur, h', _, hg, _⟩
        · simp at h'
        · simp at h'; obtain ⟨rfl, -⟩ := h'; exact ⟨cur, _, hg⟩
      have hK2 := hK.trans (Keeps.setCell ⟨g, i * 3, none⟩ (.bool true) hT (by decide))
      have hownI2 := own_set hownI g (i * 3) (.bool true) hT (by decide)
      have HM := hide (show All2 (CSt w1) (markD l i) (css.set i [.bool true, .int .i64 l[i].holds, vah]) by
        unfold markD
        rw [stD l i hi]
        exact All2.set ⟨vah, rfl, hInt⟩ i hA)
      have HCL := hide (show ∀ c, c ∈ css.set i [.bool true, .int .i64 l[i].holds, vah] → c.length = 3 by
        intro c hc
        rcases List.mem_or_eq_of_mem_set hc with h | h
        · exact hcl c h
        · subst h; rfl)
      have HB := hide (hb.setCell (p := ⟨g, i * 3, none⟩) hgl.1 (.bool true))
      have HST := hide hst.1
      have HK2 := hide hK2
      have l1 : (i : Int) < L.tns.length := by omega
      have hml : (markD l i).length = L.tns.length := by rw [markD_len]; exact unhide HLL
      have HML := hide hml
      have HUM := hide (And.intro hum (And.intro hu hlen))
      have hal : acc.length < 1000 := by omega
      obtain ⟨hgl1, hgl2⟩ := hgl
      clear hown hA hcl hK hZ hb hf hst hT hK2 hInt hcsi hml hownI hum hci hd hu hlen hcs
      generalize l[i].holds = hold at *
      generalize l[i].done = dold at *
      rw [show (firstV (some i)).1 = .int .i64 i from rfl, show (firstV (some i)).2 = true from rfl]
      go_wp2_with (at_builtin; refine wpList_append_own _ rfl _ _ 50 rfl w1.heap.size 3 i0 (.int .i64 0) 1 8 Tryz.underlying50 (unhide HI).1 (unhide HI).2.1 (unhide HI).2.2.1 (unhide HI).2.2.2 rfl (by decide) _ _ _ rfl (hownI2.alloc _) ⟨wr.heap.size, 0, none⟩ 1 1 [.int .i64 i] rfl rfl (by exact cells_new_at _ [.int .i64 i] _ _ (by simp [World.setCell])) (one_cell1 rfl) (by unfold maxLen; omega) (by omega) (by simp [World.setCell]; omega) ?_; intro v3 w3 hown3 hgrow3 _)
      have hsz2 : w1.heap.size ≤ (wr.setCell ⟨g, i * 3, none⟩ (.bool true)).heap.size := by simp [World.setCell]; omega
      have hK3 := keepsB (unhide HK2) hsz2 hownI2 hgrow3
      have hR3 := ownsRow_keep (unhide HST) (append_keeps hownI2 hgrow3 (by decide))
      have hb3 := grow_belowB (unhide HB) (by omega) hw1 hownI2 hgrow3
      have hs3 : w1.heap.size ≤ w3.heap.size := by have := hgrow3.size; simp [World.setCell] at this; omega
      have HS3 := hide (SlAt.ofOwnN hR3 (All2.mono (fun _ _ h => h.keep hK3) (unhide HM)) (unhide HCL) (unhide HML).symm : Sts w3 (.slice (some ⟨g, 0, none⟩) L.tns.length c) (markD l i))
      have HR3 := hide (firstToRun_any _ _ w3 (unhide HS3) (by rw [unhide HML]; exact hn))
      have HF3 := hide (And.intro hK3 (And.intro hR3 hb3))
      clear hownI2 hgrow3 hK3 hR3 hb3 hsz2 hc0 hz0
      refine (unhide HR3).mono ?_
      rintro e w4 ⟨rfl, hb4⟩
      have HB4 := hide hb4
      have hs4 := hb4.size
      clear hb4
      go_wp2
      go_roundg f
      case measure => omega
      case rel =>
        obtain ⟨u1, u2, u3⟩ := unhide HUM
        have hI4 := ownsRow_below hown3 (unhide HB4)
        rw [← intsV_snoc] at hI4
        exact ⟨markD l i, _, acc ++ [i], unhide HML, by omega, rfl, rfl, ownsRow_below (unhide HF3).2.1 (unhide HB4), unhide HM, unhide HCL, (unhide HF3).1.trans (Keeps.below (unhide HB4)), by omega, by simpa using hI4, by simp; omega, unhide HZ2, (unhide HF3).2.2.trans ((unhide HB4).mono (by omega))⟩
end Go.Proofs.YtkbpocecbcaiiaaGreatDoor

/-
  THE WALKS OVER rails.load, rails.Check.
-/
namespace Go.Proofs.YtkbpocecbcaiiaaGreatDoor
open Go.RowKit

/-- greedily: do all come through? -/
def Lay.okL (L : Lay) (at_ : List Nat) : Bool := (orderL L.tns.length (L.stsAt at_)).2.all (·.done)
def loadOf (s : ByteArray) : Nat × Nat :=
  if (formOf s).1 ≠ 0 then formOf s
  else if (layL s).2.2.checkOf.1 ≠ 0 then (layL s).2.2.checkOf
  else if (layL s).2.2.okL (List.replicate (layL s).2.2.tns.length 0) = false then (6, 0)
  else (0, 0)

/-- what Check's yes gives. -/
structure Lay.Good (L : Lay) : Prop where
  paths : L.Paths
  jnys : L.Jnys
  tns : L.tns.length ≤ 5
  jl : ∀ t, t ∈ L.tns → t.jny.length ≤ 8
  pl : ∀ r, r ∈ L.rts → r.path.length ≤ 1000
theorem jnys_ok (L : Lay) (h : ∀ j, j < L.tns.length → L.trainOK (L.tn j) (L.tns.take j) = true) : L.Jnys := by
  intro t ht r hr
  obtain ⟨j, hj, rfl⟩ := List.getElem_of_mem ht
  have := h j hj
  rw [tn_eq' L j hj] at this
  unfold Lay.trainOK at this
  simp only [Bool.and_eq_true] at this
  exact joins_lt L _ _ this.2 r hr
theorem check0 (L : Lay) (h : L.checkOf.1 = 0) (hp : L.Paths) : L.Good := by
  unfold Lay.checkOf at h
  cases hb : L.big with
  | true => rw [hb] at h; cases h
  | false =>
    rw [hb, if_neg (by simp)] at h
    cases h4 : (List.range L.rts.length).find? (fun i => !L.routeOK (L.rt i)) with
    | some i => rw [h4] at h; cases h
    | none =>
      rw [h4] at h
      simp only at h
      cases h5 : (List.range L.tns.length).find? (fun i => !L.trainOK (L.tn i) (L.tns.take i)) with
      | some i => rw [h5] at h; cases h
      | none =>
        rw [List.find?_eq_none] at h5
        unfold Lay.big at hb
        simp only [Bool.or_eq_false_iff, decide_eq_false_iff_not, List.any_eq_false] at hb
        obtain ⟨⟨⟨⟨-, -⟩, b3⟩, b4⟩, b5⟩ := hb
        refine ⟨hp, jnys_ok L (fun j hj => by simpa using h5 j (List.mem_range.2 hj)), by omega, fun t ht => ?_, fun r hr => ?_⟩
        · have := b5 t ht; simp at this; exact this
        · have := b4 r hr; simp at this; omega

set_option maxHeartbeats 1000000 in
theorem load_any (s : ByteArray) (w : World) (hP : (formOf s).1 = 0 → (layL s).2.2.Paths) :
    Calls Tryz.prog 71 #[.string s] w fun e w' => ∃ v, e = .returned (.tuple #[v, .int .i64 (loadOf s).1, .int .i64 (loadOf s).2]) ∧ LShape v ∧ ((loadOf s).1 = 0 → CLay w' v (layL s).2.2 ∧ (layL s).2.2.Good) ∧ Below w.heap.size w w' := by
  obtain ⟨E, hE⟩ : ∃ E, E = loadOf s := ⟨_, rfl⟩
  rw [← hE]
  unfold loadOf at hE
  have H1 := hide (fun w => cRead_any s w)
  obtain ⟨F, hF⟩ : ∃ F, F = formOf s := ⟨_, rfl⟩
  rw [← hF] at hE H1 hP
  generalize (layL s).2.2 = L at *
  have HE := hide hE
  have HP := hide hP
  clear hE hF hP
  go_enter Tryz.func71, Tryz.ntmps71
  go_wp2_with fail
  refine (unhide H1 _).mono ?_
  rintro e w1 ⟨v, rfl, ⟨T, D, Q, a1, a2, a3, n1, n2, n3, d1, d2, d3, rfl⟩, hL, hb⟩
  have hbw : Below w.heap.size w w1 := (below_alloc w zeroLay).trans (hb.mono (by simp))
  have hR1 : w1.heap[w.heap.size]? = some zeroLay := (hb.block _ (by simp)).trans (heap_alloc_new w zeroLay)
  have hlt1 := blk_lt hR1
  have D1 := hide (And.intro hR1 (And.intro hL hbw))
  clear hb hL hbw H1 hR1
  by_cases hf0 : F.1 = 0
  · have HCL := hide ((unhide D1).2.1 hf0)
    have HPP := hide (unhide HP hf0)
    rw [if_neg (by simp [hf0])] at HE
    have hfz : ((F.1 : Int) != 0) = false := by simp [hf0]
    clear hf0 HP
    have HR2 := hide ((Below.heap_alloc w1 (.cells #[.int .i64 T, .int .i64 D, .int .i64 Q, .slice a1 n1 d1, .slice a2 n2 d2, .slice a3 n3 d3] 83) _ hlt1).trans (unhide D1).1)
    have HL2 := hide (heap_alloc_new w1 (.cells #[.int .i64 T, .int .i64 D, .int .i64 Q, .slice a1 n1 d1, .slice a2 n2 d2, .slice a3 n3 d3] 83))
    have HC2 := hide ((unhide HCL).below (below_alloc w1 (.cells #[.int .i64 T, .int .i64 D, .int .i64 Q, .slice a1 n1 d1, .slice a2 n2 d2, .slice a3 n3 d3] 83)))
    have HB2 := hide ((unhide D1).2.2.alloc (unhide D1).2.2.size (.cells #[.int .i64 T, .int .i64 D, .int .i64 Q, .slice a1 n1 d1, .slice a2 n2 d2, .slice a3 n3 d3] 83))
    have HK := hide (cCheck_any _ L _ (unhide HC2) (unhide HPP))
    obtain ⟨C, hC⟩ : ∃ C, C = L.checkOf := ⟨_, rfl⟩
    rw [← hC] at HK HE
    have HCO := hide hC
    clear HCL D1 hC
    go_wp2_with fail
    refine (unhide HK).mono ?_
    rintro e w3 ⟨rfl, hb3⟩
    have hz3 := hb3.size
    simp at hz3
    have hR3 := (hb3.block _ (by simp; omega)).trans (unhide HR2)
    have hL3 := (hb3.block _ (by simp)).trans (unhide HL2)
    have HC3 := hide ((unhide HC2).below hb3)
    have HB3 := hide ((unhide HB2).trans (hb3.mono (unhide HB2).size))
    have HR3 := hide hR3
    have HL3 := hide hL3
    clear hb3 HR2 HL2 HC2 HB2 HK
    obtain ⟨⟨r0, r1, r2, r3, r4, r5⟩, ⟨e0, e1, e2, e3, e4, e5⟩, qr⟩ := six0 hR3
    obtain ⟨⟨l0, l1, l2, l3, l4, l5⟩, -, ql⟩ := six0 hL3
    clear hR3 hL3
    by_cases hc0 : C.1 = 0
    · rw [if_neg (by simp [hc0])] at HE
      have hcz : ((C.1 : Int) != 0) = false := by simp [hc0]
      have HG := hide (check0 L (by rw [← unhide HCO]; exact hc0) (unhide HPP))
      have HA := hide (AtFirst_any _ L w3 (unhide HC3) (by have := (unhide HG).tns; omega))
      clear hc0
      go_wp2_with fail
      refine (unhide HA).mono ?_
      rintro e w4 ⟨ag, ng, cg, rfl, hI4, hb4⟩
      have HR4 := hide ((hb4.block _ qr).trans (unhide HR3))
      have hL4 := (hb4.block _ ql).trans (unhide HL3)
      have HL4 := hide hL4
      have HC4 := hide ((unhide HC3).below hb4)
      have HB4 := hide ((unhide HB3).trans (hb4.mono (unhide HB3).size))
      have hz4 := hb4.size
      have HO := hide (sOrder_any _ _ L _ w4 (unhide HC4) hI4 (by simp) (unhide HPP) (unhide HG).jnys (by have := (unhide HG).tns; omega) (fun t ht => by have := (unhide HG).jl t ht; omega) (unhide HG).pl (fun g hg => by have := List.eq_of_mem_replicate hg; omega))
      clear r0 r1 r2 r3 r4 r5 e0 e1 e2 e3 e4 e5 l0 l1 l2 l3 l4 l5 HA hb4 hI4
      obtain ⟨⟨l0, l1, l2, l3, l4, l5⟩, -, ql4⟩ := six0 hL4
      obtain ⟨ok, hok⟩ : ∃ ok, ok = L.okL (List.replicate L.tns.length 0) := ⟨_, rfl⟩
      rw [← hok] at HE
      change Hid (Calls _ _ _ _ (fun e w' => ∃ a m c, e = .returned (.tuple #[.slice a m c, .bool (L.okL (List.replicate L.tns.length 0))]) ∧ (_ → _) ∧ _)) at HO
      rw [← hok] at HO
      clear hL4 hok
      go_wp2_with fail
      refine (unhide HO).mono ?_
      rintro e w5 ⟨ao, no, co, rfl, -, hb5⟩
      have hR5 := (hb5.block _ (by omega)).trans (unhide HR4)
      have hL5 := (hb5.block _ (by omega)).trans (unhide HL4)
      have HC5 := hide ((unhide HC4).below hb5)
      have HB5 := hide ((unhide HB4).trans (hb5.mono (unhide HB4).size))
      have hS := hide (fun u0 u1 u2 u3 u4 u5 => store6 (⟨_, _, hR5⟩ : Typed w5 w.heap.size 83) u0 u1 u2 u3 u4 u5)
      clear l0 l1 l2 l3 l4 l5 hb5 HO
      obtain ⟨⟨r0, r1, r2, r3, r4, r5⟩, ⟨e0, e1, e2, e3, e4, e5⟩, qr5⟩ := six0 hR5
      obtain ⟨⟨l0, l1, l2, l3, l4, l5⟩, -, ql5⟩ := six0 hL5
      clear hR5 hL5
      cases ok with
      | false =>
        rw [if_pos rfl] at HE
        go_wp2
        refine bodyPost_ret (v := .tuple #[zeroLV, .int .i64 6, .int .i64 0]) (by simp [results, Tryz.results71, go_sem, zeroLV, r0, r1, r2, r3, r4, r5]) rfl ?_
        exact ⟨zeroLV, by rw [unhide HE]; rfl, zeroLV_shape, fun h => absurd h (by rw [unhide HE]; simp), (unhide HB5).trans ((unhide hS _ _ _ _ _ _).2 w.heap.size (Nat.le_refl _))⟩
      | true =>
        rw [if_neg (by simp)] at HE
        go_wp2
        refine bodyPost_ret (v := .tuple #[.agg #[.int .i64 T, .int .i64 D, .int .i64 Q, .slice a1 n1 d1, .slice a2 n2 d2, .slice a3 n3 d3], .int .i64 0, .int .i64 0]) (by simp [results, Tryz.results71, go_sem, r0, r1, r2, r3, r4, r5]) rfl ?_
        exact ⟨_, by rw [unhide HE]; rfl, ⟨_, _, _, _, _, _, _, _, _, _, _, _, rfl⟩, fun _ => ⟨(unhide HC5).keep (unhide hS _ _ _ _ _ _).1, unhide HG⟩, (unhide HB5).trans ((unhide hS _ _ _ _ _ _).2 w.heap.size (Nat.le_refl _))⟩
    · rw [if_pos hc0] at HE
      have hcz : ((C.1 : Int) != 0) = true := by simp [hc0]
      have hS := hide (fun u0 u1 u2 u3 u4 u5 => store6 (⟨_, _, unhide HR3⟩ : Typed w3 w.heap.size 83) u0 u1 u2 u3 u4 u5)
      have HC0 := hide hc0
      clear hc0
      go_wp2
      refine bodyPost_ret (v := .tuple #[zeroLV, .int .i64 C.1, .int .i64 C.2]) (by simp [results, Tryz.results71, go_sem, zeroLV, r0, r1, r2, r3, r4, r5]) rfl ?_
      exact ⟨zeroLV, by rw [unhide HE], zeroLV_shape, fun h => absurd h (by rw [unhide HE]; exact unhide HC0), (unhide HB3).trans ((unhide hS _ _ _ _ _ _).2 w.heap.size (Nat.le_refl _))⟩
  · rw [if_pos hf0] at HE
    have hfz : ((F.1 : Int) != 0) = true := by simp [hf0]
    obtain ⟨⟨r0, r1, r2, r3, r4, r5⟩, ⟨e0, e1, e2, e3, e4, e5⟩, qr⟩ := six0 (unhide D1).1
    have HF0 := hide hf0
    clear hf0
    have hS := hide (fun u0 u1 u2 u3 u4 u5 => store6 (⟨_, _, (unhide D1).1⟩ : Typed w1 w.heap.size 83) u0 u1 u2 u3 u4 u5)
    go_wp2
    refine bodyPost_ret (v := .tuple #[zeroLV, .int .i64 F.1, .int .i64 F.2]) (by simp [results, Tryz.results71, go_sem, zeroLV, r0, r1, r2, r3, r4, r5, qr]) rfl ?_
    have hb9 := (unhide D1).2.2.trans ((unhide hS (.int .i64 0) (.int .i64 0) (.int .i64 0) (.slice none 0 0) (.slice none 0 0) (.slice none 0 0)).2 w.heap.size (Nat.le_refl _))
    exact ⟨zeroLV, by rw [unhide HE], zeroLV_shape, fun h => absurd h (by rw [unhide HE]; exact unhide HF0), hb9.alloc hb9.size _⟩
end Go.Proofs.YtkbpocecbcaiiaaGreatDoor

/-
  THE WALKS OVER rails.Check, rails.orderFrom, rails.Safe, railslaw.num.
-/
namespace Go.Proofs.YtkbpocecbcaiiaaGreatDoor
open Go.RowKit

def ReadPaths (s : ByteArray) : Prop := (formOf s).1 = 0 → (layL s).2.2.Paths

set_option maxHeartbeats 400000 in
theorem lCheck_any (s : ByteArray) (w : World) (hP : ReadPaths s) :
    Calls Tryz.prog 61 #[.string s] w fun e w' => e = .returned (.tuple #[.int .i64 (loadOf s).1, .int .i64 (loadOf s).2]) ∧ Below w.heap.size w w' := by
  have H := hide (load_any s w hP)
  generalize loadOf s = E at *
  clear hP
  go_enter Tryz.func61, Tryz.ntmps61
  go_wp2_with fail
  refine (unhide H).mono ?_
  rintro e w1 ⟨v, rfl, ⟨T, D, Q, a1, a2, a3, n1, n2, n3, d1, d2, d3, rfl⟩, -, hb⟩
  go_wp2
  go_ret2
  exact ⟨rfl, by first | exact hb | exact hb.trans ((below_alloc _ _).mono hb.size)⟩
def ordOf (s a : ByteArray) : Bool × Nat :=
  if (loadOf s).1 ≠ 0 then (false, (loadOf s).1)
  else if (layL s).2.2.stateB a.data.toList = false then (false, 7)
  else ((layL s).2.2.okL (digs a.data.toList), 0)

theorem stateB_len {L : Lay} {l : List UInt8} (h : L.stateB l = true) : (digs l).length = L.tns.length := by
  unfold Lay.stateB at h
  simp at h
  simp [digs, h.1]
theorem digs_le (l : List UInt8) : ∀ g, g ∈ digs l → g ≤ 1000 := by
  intro g hg
  simp only [digs, List.mem_map] at hg
  obtain ⟨c, -, rfl⟩ := hg
  have : c.toNat < 256 := c.toNat_lt
  omega

set_option maxHeartbeats 1000000 in
theorem orderFrom_any (s a : ByteArray) (w : World) (hP : ReadPaths s) :
    Calls Tryz.prog 104 #[.string s, .string a] w fun e w' => ∃ (ao : Option Addr) (no co : Nat), e = .returned (.tuple #[.slice ao no co, .bool (ordOf s a).1, .int .i64 (ordOf s a).2]) ∧
      ((ordOf s a).1 = true → Ints w' (.slice ao no co) (orderL (layL s).2.2.tns.length ((layL s).2.2.stsAt (digs a.data.toList))).1) ∧ Below w.heap.size w w' := by
  have H := hide (load_any s w hP)
  obtain ⟨E, hE⟩ : ∃ E, E = ordOf s a := ⟨_, rfl⟩
  rw [← hE]
  unfold ordOf at hE
  generalize loadOf s = F at *
  generalize (layL s).2.2 = L at *
  have HE := hide hE
  clear hP hE
  go_enter Tryz.func104, Tryz.ntmps104
  go_wp2_with fail
  refine (unhide H).mono ?_
  rintro e w1 ⟨v, rfl, ⟨T, D, Q, a1, a2, a3, n1, n2, n3, d1, d2, d3, rfl⟩, hL, hb⟩
  have D1 := hide (And.intro hL hb)
  have hz1 := hb.size
  clear hL hb H
  by_cases hf0 : F.1 = 0
  · obtain ⟨hC1, hG⟩ := (unhide D1).1 hf0
    rw [if_neg (by simp [hf0])] at HE
    have hfz : ((F.1 : Int) != 0) = false := by simp [hf0]
    have HG := hide hG
    have HL2 := hide (heap_alloc_new w1 (.cells #[.int .i64 T, .int .i64 D, .int .i64 Q, .slice a1 n1 d1, .slice a2 n2 d2, .slice a3 n3 d3] 83))
    have HC2 := hide (hC1.below (below_alloc w1 (.cells #[.int .i64 T, .int .i64 D, .int .i64 Q, .slice a1 n1 d1, .slice a2 n2 d2, .slice a3 n3 d3] 83)))
    have HB2 := hide ((unhide D1).2.alloc (unhide D1).2.size (.cells #[.int .i64 T, .int .i64 D, .int .i64 Q, .slice a1 n1 d1, .slice a2 n2 d2, .slice a3 n3 d3] 83))
    have HRS := hide (ReadState_any _ L a _ (unhide HC2) (by have := hG.tns; omega) hG.jl)
    obtain ⟨st, hst⟩ : ∃ st, st = L.stateB a.data.toList := ⟨_, rfl⟩
    rw [← hst] at HRS HE
    have HST := hide hst
    clear hf0 hC1 hG D1 hst
    go_wp2_with fail
    refine (unhide HRS).mono ?_
    rintro e w3 ⟨v', rfl, hI3, hb3⟩
    have hL3 := (hb3.block _ (by simp)).trans (unhide HL2)
    have HL3 := hide hL3
    have HC3 := hide ((unhide HC2).below hb3)
    have HB3 := hide ((unhide HB2).trans (hb3.mono (unhide HB2).size))
    obtain ⟨⟨l0, l1, l2, l3, l4, l5⟩, -, ql⟩ := six0 hL3
    have HI3 := hide hI3
    clear hb3 HL2 HC2 HB2 HRS hL3 hI3
    cases st with
    | false =>
      rw [if_pos rfl] at HE
      go_wp2
      go_ret3
      exact ⟨none, 0, 0, by rw [unhide HE]; rfl, fun h => absurd h (by rw [unhide HE]; simp), unhide HB3⟩
    | true =>
      rw [if_neg (by simp)] at HE
      have hI4 := unhide HI3 rfl
      obtain ⟨ai, ci, hv', -, -, -⟩ := SlAt.open hI4
      have HO := hide (sOrder_any _ _ L _ w3 (unhide HC3) hI4 (stateB_len (unhide HST).symm) (unhide HG).paths (unhide HG).jnys (by have := (unhide HG).tns; omega) (fun t ht => by have := (unhide HG).jl t ht; omega) (unhide HG).pl (digs_le _))
      obtain ⟨ok, hok⟩ : ∃ ok, ok = L.okL (digs a.data.toList) := ⟨_, rfl⟩
      rw [← hok] at HE
      change Hid (Calls _ _ _ _ (fun e w' => ∃ a' m c, e = .returned (.tuple #[.slice a' m c, .bool (L.okL (digs a.data.toList))]) ∧ (L.okL (digs a.data.toList) = true → _) ∧ _)) at HO
      rw [← hok] at HO
      subst hv'
      clear hok hI4 HI3
      go_wp2_with fail
      refine (unhide HO).mono ?_
      rintro e w5 ⟨ao, no, co, rfl, hI5, hb5⟩
      have HB5 := hide ((unhide HB3).trans (hb5.mono (unhide HB3).size))
      have HI5 := hide hI5
      clear l0 l1 l2 l3 l4 l5 hb5 HO hI5
      go_wp2
      go_ret3
      exact ⟨ao, no, co, by rw [unhide HE] <;> rfl, fun h => unhide HI5 (by rw [unhide HE] at h; exact h), unhide HB5⟩
  · rw [if_pos hf0] at HE
    have hfz : ((F.1 : Int) != 0) = true := by simp [hf0]
    have hb3 := hide ((unhide D1).2.alloc hz1 (.cells #[.int .i64 T, .int .i64 D, .int .i64 Q, .slice a1 n1 d1, .slice a2 n2 d2, .slice a3 n3 d3] 83))
    clear hf0
    go_wp2
    go_ret3
    exact ⟨none, 0, 0, by rw [unhide HE]; rfl, fun h => absurd h (by rw [unhide HE]; simp), unhide hb3⟩

set_option maxHeartbeats 400000 in
theorem lSafe_any (s a : ByteArray) (w : World) (hP : ReadPaths s) :
    Calls Tryz.prog 62 #[.string s, .string a] w fun e w' => e = .returned (.tuple #[.bool (ordOf s a).1, .int .i64 (ordOf s a).2]) ∧ Below w.heap.size w w' := by
  have H := hide (orderFrom_any s a w hP)
  generalize ordOf s a = E at *
  clear hP
  go_enter Tryz.func62, Tryz.ntmps62
  go_wp2_with fail
  refine (unhide H).mono ?_
  rintro e w1 ⟨ao, no, co, rfl, -, hb⟩
  go_wp2
  go_ret2
  exact ⟨rfl, hb⟩
theorem num_any (x : Int) (w : World) :
    Calls Tryz.prog 59 #[.int .i64 x] w fun e w' => e = .returned (.int .i64 x) ∧ w' = w := by
  go_enter Tryz.func59, Tryz.ntmps59
  go_wp2
  go_ret
  exact ⟨rfl, rfl⟩
end Go.Proofs.YtkbpocecbcaiiaaGreatDoor

/-
  THE WALKS OVER railslaw.Checks, railslaw.Safes: what they answer.
-/
namespace Go.Proofs.YtkbpocecbcaiiaaGreatDoor
open Go.RowKit

set_option maxHeartbeats 1000000 in
theorem Checks_any (s : ByteArray) (w : World) (hF : FormOK) (hP : ReadPaths s) (hA1 : (loadOf s).1 = (errOf s.data.toList).1) (hA2 : ((loadOf s).2 : Int) = (errOf s.data.toList).2) :
    Calls Tryz.prog 25 #[.string s] w fun e w' => e = .returned (.bool true) ∧ Below w.heap.size w w' := by
  have H1 := hide (lCheck_any s w hP)
  have H2 := hide (fun (w : World) => rCheck_any s w hF)
  rw [← hA1, ← hA2] at H2
  generalize (loadOf s).1 = a at *
  generalize (loadOf s).2 = b at *
  clear hF hP hA1 hA2
  go_enter Tryz.func25, Tryz.ntmps25
  go_wp2_with fail
  refine (unhide H1).mono ?_
  rintro e w1 ⟨rfl, hb1⟩
  have HB1 := hide hb1
  clear hb1
  go_wp2_with fail
  refine (unhide H2 w1).mono ?_
  rintro e w2 ⟨rfl, hb2⟩
  have HB2 := hide ((unhide HB1).trans (hb2.mono (unhide HB1).size))
  clear hb2
  go_wp2
  go_ret
  exact ⟨rfl, unhide HB2⟩
set_option maxHeartbeats 1000000 in
theorem Safes_any (s a : ByteArray) (w : World) (hF : FormOK) (hP : ReadPaths s) (hA : ordOf s a = safeOf s.data.toList a.data.toList) :
    Calls Tryz.prog 26 #[.string s, .string a] w fun e w' => e = .returned (.bool true) ∧ Below w.heap.size w w' := by
  have H1 := hide (lSafe_any s a w hP)
  have H2 := hide (fun (w : World) => rSafe_any s a w hF)
  rw [← hA] at H2
  generalize (ordOf s a).1 = x at *
  generalize (ordOf s a).2 = y at *
  clear hF hP hA
  go_enter Tryz.func26, Tryz.ntmps26
  go_wp2_with fail
  refine (unhide H1).mono ?_
  rintro e w1 ⟨rfl, hb1⟩
  have HB1 := hide hb1
  clear hb1
  go_wp2_with fail
  refine (unhide H2 w1).mono ?_
  rintro e w2 ⟨rfl, hb2⟩
  have HB2 := hide ((unhide HB1).trans (hb2.mono (unhide HB1).size))
  clear hb2
  go_wp2
  go_ret
  exact ⟨rfl, unhide HB2⟩
end Go.Proofs.YtkbpocecbcaiiaaGreatDoor
