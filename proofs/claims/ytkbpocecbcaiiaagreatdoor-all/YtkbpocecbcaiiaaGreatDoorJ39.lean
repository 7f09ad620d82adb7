import Derived.Test.YtkbpocecbcaiiaaGreatDoorJ38
import Derived.Deep.AppendLies
namespace Go.Proofs.YtkbpocecbcaiiaaGreatDoor
open Go.RowKit
def markD (l : List St) (i : Nat) : List St := l.set i ⟨true, (l.getD i ⟨false, 0, []⟩).holds, (l.getD i ⟨false, 0, []⟩).ahead⟩
def z19 : Nat -> List St -> List Nat × List St
 | 0, l => ([], l)
 | f + 1, l => match z32 l with
  | none => ([], l)
  | some i => (i :: (z19 f (markD l i)).1, (z19 f (markD l i)).2)
def z37 (l : List St) : Nat := (l.filter (fun x => !x.done)).length
theorem z2k {l : List St} {i : Nat} (h : z32 l = some i) : ∃ hi : i < l.length, l[i].done = false /\ z24 l i = true := by
 unfold z32 at h
 have hm := List.mem_of_find?_eq_some h
 have hp := List.find?_some h
 have hi := List.mem_range.1 hm
 refine ⟨hi, ?_⟩
 rw [stD l i hi] at hp
 simpa using hp
theorem undoneS_set : ∀ (l : List St) (i : Nat) (hi : i < l.length) (x : St), l[i].done = false -> x.done = true -> z37 (l.set i x) + 1 = z37 l
 | [], i, hi, _, _, _ => by simp at hi
 | a :: l, 0, _, x, h, hx => by
  simp at h
  simp [z37, h, hx]
 | a :: l, i + 1, hi, x, h, hx => by
  have ih := undoneS_set l i (by simpa using hi) x (by simpa using h) hx
  unfold z37 at ih ⊢
  simp only [List.set_cons_succ, List.filter_cons]
  cases a.done <;> simp <;> omega
theorem z3m {l : List St} {i : Nat} (h : z32 l = some i) : z37 (markD l i) + 1 = z37 l := by
 obtain ⟨hi, hd, -⟩ := z2k h
 exact undoneS_set l i hi _ hd rfl
theorem z1y (l : List St) (i : Nat) : (markD l i).length = l.length := by simp [markD]
theorem undoneS_le (l : List St) : z37 l <= l.length := List.length_filter_le _ _
theorem keepsB {w1 wr w3 : World} {o : Obj} {v : Value} {n : Nat} {xs : List Value} (hK : Keeps 3 w1 wr) (hle : w1.heap.size <= wr.heap.size) (hown : wr.ownsRow w1.heap.size 3 1 v n xs)
  (hg : (wr.alloc o).grownBy w3 v.ownBlock) : Keeps 3 w1 w3 := by
 intro g cur fr h
 have hlt := z0f h
 rw [<- hK g cur fr h, hg.block g (by simp; omega) ?_, Below.heap_alloc _ _ _ (by omega)]
 intro e
 have := (hown.lt g e.symm).1
 omega
theorem flatten_set (css : List (List Value)) (sz : Nat) (hl : ∀ c, c ∈ css -> c.length = sz) : ∀ (i j : Nat) (hi : i < css.length) (u : Value), j < sz -> css.flatten.set (i * sz + j) u = (css.set i (css[i].set j u)).flatten := by
 induction css with
 | nil => intro i j hi; simp at hi
 | cons c css ih =>
  intro i j hi u hj
  have hc := hl c (by simp)
  cases i with
  | zero => simp; rw [List.set_append_left _ _ (by omega)]
  | succ i =>
   have := ih (fun c hc => hl c (List.mem_cons_of_mem _ hc)) i j (by simpa using hi) u hj
   simp only [List.flatten_cons, List.set_cons_succ, List.getElem_cons_succ]
   rw [List.set_append_right _ _ (by rw [hc, Nat.succ_mul]; omega), hc, <- this]
   congr 2
   rw [Nat.succ_mul]; omega
theorem All2.set {α β : Type} {R : α -> β -> Prop} {a : α} {b : β} (h : R a b) : ∀ {l : List α} {m : List β} (i : Nat), All2 R l m -> All2 R (l.set i a) (m.set i b)
 | [], [], _, _ => trivial
 | _ :: _, _ :: _, 0, hh => ⟨h, hh.2⟩
 | _ :: _, _ :: _, i + 1, hh => ⟨hh.1, All2.set h i hh.2⟩
 | [], _ :: _, _, hh => hh.elim
 | _ :: _, [], _, hh => hh.elim
set_option maxHeartbeats 1000000 in
theorem sOrder_any (v va : Value) (L : Lay) (at_ : List Nat) (w : World) (h : CLay w v L) (ha : Ints w va at_) (hla : at_.length = L.tns.length) (hp : L.Paths) (hj : L.Jnys)
  (hn : L.tns.length <= 1000) (hl : ∀ t, t ∈ L.tns -> t.jny.length <= 1000) (hpl : ∀ r, r ∈ L.rts -> r.path.length <= 1000) (hg : ∀ g, g ∈ at_ -> g <= 1000) :
  Calls Tryz.prog 112 #[v, va] w fun e w' => ∃ (a : Option Addr) (m c : Nat), e = .returned (.tuple #[.slice a m c, .bool ((z19 L.tns.length (L.stsAt at_)).2.all (·.done))]) ∧
   ((z19 L.tns.length (L.stsAt at_)).2.all (·.done) = true -> Ints w' (.slice a m c) (z19 L.tns.length (L.stsAt at_)).1) /\ Below w.heap.size w w' := by
 have H1 := zh (fun (wz : World) (hz : Below w.heap.size w wz) => trainsAt_any v va L at_ wz (h.below hz) (ha.below hz) hla hp hj hn hl hpl hg)
 obtain ⟨i0, hi0⟩ := info_parts Tryz.infoInt
 have HI := zh hi0
 obtain ⟨vs, vr, vtt, rfl, -, -, -⟩ := h
 obtain ⟨aoa, capa, rfl, -, -, -⟩ := SlAt.open ha
 have HLA := zh hla
 clear ha hp hi0 hj hpl hl hg hla
 go_enter Tryz.func112, Tryz.ntmps112
 obtain ⟨Z, hZ⟩ : ∃ Z, Z = z19 L.tns.length (L.stsAt at_) := ⟨_, rfl⟩
 rw [<- hZ]
 have HZ := zh hZ
 clear hZ
 go_wp2_with fail
 refine (uh H1 _ (z02 _ _)).mono ?_
 rintro e w1 ⟨a, c, css0, rfl, hown0, hA0, hcl0, hb0⟩
 have hlen : (L.stsAt at_).length = L.tns.length := by simp [Lay.stsAt]
 generalize L.stsAt at_ = l0 at *
 have hb1 : Below w.heap.size w w1 := (z02 w _).trans (hb0.mono (by simp))
 have HS0 := zh (SlAt.ofOwnN hown0 hA0 hcl0 hlen.symm : Sts w1 (.slice a L.tns.length c) l0)
 have HF0 := zh (And.intro hown0 (And.intro hA0 (And.intro hcl0 (And.intro hb1 hlen))))
 have HR0 := zh (z3w _ l0 w1 (uh HS0) (by omega))
 clear hown0 hA0 hcl0 hb0 hb1 H1 hlen
 go_wp2_with fail
 refine (uh HR0).mono ?_
 rintro e w2 ⟨rfl, hb2⟩
 have HB2 := zh hb2
 clear hb2
 go_wp2
 have hw1 : w.heap.size <= w1.heap.size := (uh HF0).2.2.2.1.size
 go_loopg [7, 8, 9] L.tns.length (fun f vo vn vf wr => ∃ (l : List St) (css : List (List Value)) (acc : List Nat), l.length = L.tns.length /\ z37 l <= f /\ vn = (firstV (z32 l)).1 /\ vf = .bool (firstV (z32 l)).2 ∧
   wr.ownsRow w.heap.size 223 3 (.slice a L.tns.length c) L.tns.length css.flatten /\ All2 (CSt w1) l css /\ (∀ c, c ∈ css -> c.length = 3) /\ Keeps 3 w1 wr /\ w1.heap.size <= wr.heap.size ∧
   wr.ownsRow w1.heap.size 3 1 vo acc.length (intsV acc) /\ acc.length + z37 l <= L.tns.length /\ Z = (acc ++ (z19 f l).1, (z19 f l).2) /\ Below w.heap.size w wr)
 case atStart =>
  obtain ⟨f1, f2, f3, f4, f5⟩ := uh HF0
  have hu := undoneS_le l0
  refine ⟨l0, css0, [], f5, by omega, rfl, rfl, (z0e f1 (uh HB2)).mono (by simp), f2, f3, Keeps.below (uh HB2), (uh HB2).size, World.ownsRow_nil _ _ _ _, by simp; omega, by rw [uh HZ]; rfl, f4.trans ((uh HB2).mono f4.size)⟩
 case round =>
  clear HF0 HB2 HR0 HS0 HZ
  obtain ⟨l, css, acc, hll, hu, rfl, rfl, hown, hA, hcl, hK, hsz, hownI, hlen, hZ, hb⟩ := hrel
  obtain ⟨ai, ci, hvo⟩ := z03 hownI
  subst hvo
  have HLL := zh hll
  clear hll
  cases hf : z32 l with
  | none =>
   have HZ2 := zh (show Z = (acc, l) by rw [hZ]; cases gk <;> simp [z19, hf])
   have HS := zh (SlAt.ofOwnN hown (All2.mono (fun _ _ h => h.keep hK) hA) hcl (uh HLL).symm : Sts wr (.slice a L.tns.length c) l)
   have HR := zh (allDone_any _ l wr (uh HS))
   have HFI := zh (Ints.ofOwn hownI rfl)
   have HB := zh hb
   clear hown hA hcl hK hZ hb hownI hf
   obtain ⟨dn, hdn⟩ : ∃ dn, dn = l.all (·.done) := ⟨_, rfl⟩
   rw [<- hdn] at HR
   have HDN := zh hdn
   clear hdn
   go_wp2_with fail
   refine (uh HR).mono ?_
   rintro e w3 ⟨rfl, hb3⟩
   have HBB := zh ((uh HB).trans (hb3.mono (uh HB).size))
   have HFI3 := zh ((uh HFI).below hb3)
   clear hb3
   cases dn with
   | false =>
    go_wp2
    go_ret2
    exact ⟨none, 0, 0, by rw [uh HZ2, <- uh HDN]; rfl, fun h => absurd h (by rw [uh HZ2, <- uh HDN]; simp), uh HBB⟩
   | true =>
    go_wp2
    go_ret2
    exact ⟨ai, acc.length, ci, by rw [uh HZ2, <- uh HDN]; rfl, fun _ => by rw [uh HZ2]; exact uh HFI3, uh HBB⟩
  | some i =>
   obtain ⟨hi, hd, -⟩ := z2k hf
   have hum := z3m hf
   obtain ⟨f, hfe⟩ : ∃ f, gk = f + 1 := ⟨gk - 1, by omega⟩
   subst hfe
   have HZ2 := zh (show Z = ((acc ++ [i]) ++ (z19 f (markD l i)).1, (z19 f (markD l i)).2) by rw [hZ]; simp [z19, hf])
   have hi' : i < L.tns.length := by rw [<- uh HLL]; exact hi
   have hcs : i < css.length := by rw [<- hA.length]; exact hi
   obtain ⟨g, hg0⟩ : ∃ g, a = some ⟨g, 0, none⟩ := by
    rcases hown.2 with ⟨h', _⟩ | ⟨g', cap', cur, h', _⟩
    ·simp at h'; omega
    ·simp at h'; exact ⟨g', h'.1⟩
   subst hg0
   have hci : css[i].length = 3 := hcl _ (List.getElem_mem _)
   have hAi := hA.get i hi hcs
   obtain ⟨vah, hcsi, hInt⟩ := hAi
   have hc0 := hown.cellAt (i * 3 + 0) (by omega)
   rw [z1k css 3 hcl i 0 hcs (by omega), hcsi] at hc0
   simp at hc0
   have hz0 := hown.frozenAt (i * 3)
   have hst := hown.stored (i * 3 + 0) (.bool true)
   rw [flatten_set css 3 hcl i 0 hcs _ (by omega), hcsi] at hst
   simp only [List.set_cons_zero, Nat.add_zero] at hst
   have hgl := (hown.lt g rfl)
   have hT : Typed wr g 223 := by
    rcases hown.2 with ⟨h', _⟩ | ⟨g', cap', cur, h', _, hg, _⟩
    ·simp at h'
    ·simp at h'; obtain ⟨rfl, -⟩ := h'; exact ⟨cur, _, hg⟩
   have hK2 := hK.trans (Keeps.setCell ⟨g, i * 3, none⟩ (.bool true) hT (by decide))
   have hownI2 := z2i hownI g (i * 3) (.bool true) hT (by decide)
   have HM := zh (show All2 (CSt w1) (markD l i) (css.set i [.bool true, .int .i64 l[i].holds, vah]) by
    unfold markD
    rw [stD l i hi]
    exact All2.set ⟨vah, rfl, hInt⟩ i hA)
   have HCL := zh (show ∀ c, c ∈ css.set i [.bool true, .int .i64 l[i].holds, vah] -> c.length = 3 by
    intro c hc
    rcases List.mem_or_eq_of_mem_set hc with h | h
    ·exact hcl c h
    ·subst h; rfl)
   have HB := zh (hb.setCell (p := ⟨g, i * 3, none⟩) hgl.1 (.bool true))
   have HST := zh hst.1
   have HK2 := zh hK2
   have l1 : (i : Int) < L.tns.length := by omega
   have hml : (markD l i).length = L.tns.length := by rw [z1y]; exact uh HLL
   have HML := zh hml
   have HUM := zh (And.intro hum (And.intro hu hlen))
   have hal : acc.length < 1000 := by omega
   obtain ⟨hgl1, hgl2⟩ := hgl
   clear hown hA hcl hK hZ hb hf hst hT hK2 hInt hcsi hml hownI hum hci hd hu hlen hcs
   generalize l[i].holds = hold at *
   generalize l[i].done = dold at *
   rw [show (firstV (some i)).1 = .int .i64 i from rfl, show (firstV (some i)).2 = true from rfl]
   go_wp2_with (at_builtin; refine wpList_append_own _ rfl _ _ 50 rfl w1.heap.size 3 i0 (.int .i64 0) 1 8 Tryz.underlying50 (uh HI).1 (uh HI).2.1 (uh HI).2.2.1 (uh HI).2.2.2 rfl (by decide) _ _ _ rfl (hownI2.alloc _) ⟨wr.heap.size, 0, none⟩ 1 1 [.int .i64 i] rfl rfl (by exact z0h _ [.int .i64 i] _ _ (by simp [World.setCell])) (z0a rfl) (by unfold maxLen; omega) (by omega) (by simp [World.setCell]; omega) ?_; intro v3 w3 hown3 hgrow3 _)
   have hsz2 : w1.heap.size <= (wr.setCell ⟨g, i * 3, none⟩ (.bool true)).heap.size := by simp [World.setCell]; omega
   have hK3 := keepsB (uh HK2) hsz2 hownI2 hgrow3
   have hR3 := z01 (uh HST) (z07 hownI2 hgrow3 (by decide))
   have hb3 := grow_belowB (uh HB) (by omega) hw1 hownI2 hgrow3
   have hs3 : w1.heap.size <= w3.heap.size := by have := hgrow3.size; simp [World.setCell] at this; omega
   have HS3 := zh (SlAt.ofOwnN hR3 (All2.mono (fun _ _ h => h.keep hK3) (uh HM)) (uh HCL) (uh HML).symm : Sts w3 (.slice (some ⟨g, 0, none⟩) L.tns.length c) (markD l i))
   have HR3 := zh (z3w _ _ w3 (uh HS3) (by rw [uh HML]; exact hn))
   have HF3 := zh (And.intro hK3 (And.intro hR3 hb3))
   clear hownI2 hgrow3 hK3 hR3 hb3 hsz2 hc0 hz0
   refine (uh HR3).mono ?_
   rintro e w4 ⟨rfl, hb4⟩
   have HB4 := zh hb4
   have hs4 := hb4.size
   clear hb4
   go_wp2
   go_roundg f
   case measure => omega
   case rel =>
    obtain ⟨u1, u2, u3⟩ := uh HUM
    have hI4 := z0e hown3 (uh HB4)
    rw [<- z0p] at hI4
    exact ⟨markD l i, _, acc ++ [i], uh HML, by omega, rfl, rfl, z0e (uh HF3).2.1 (uh HB4), uh HM, uh HCL, (uh HF3).1.trans (Keeps.below (uh HB4)), by omega, by simpa using hI4, by simp; omega, uh HZ2, (uh HF3).2.2.trans ((uh HB4).mono (by omega))⟩
def z1t (s : ByteArray) : Nat × Nat :=
 if 256 < s.size then (1, 0)
 else if ((layL s).1 && decide ((layL s).2.1 = s.size)) = false then (2, (layL s).2.1)
 else (0, 0)
def z2y : Value := .agg #[.int .i64 0, .int .i64 0, .int .i64 0, .slice none 0 0, .slice none 0 0, .slice none 0 0]
theorem z1p : LShape z2y := ⟨0, 0, 0, none, none, none, 0, 0, 0, 0, 0, 0, rfl⟩
theorem gr_below {w w' : World} {b : Nat} (h : w.grownBy w' (some b)) (B : Nat) (hB : B <= w.heap.size) (hb : B <= b) : Below B w w' :=
 ⟨h.os, h.tape, h.output, h.size, fun k hk => h.block k (by omega) (by simp; omega)⟩
set_option maxHeartbeats 1000000 in
theorem cRead_lo (s : ByteArray) (w : World) :
  Calls Tryz.prog 110 #[.string s] w fun e w' => ∃ v, e = .returned (.tuple #[v, .int .i64 (z1t s).1, .int .i64 (z1t s).2]) /\ LShape v /\ ((z1t s).1 = 0 -> CLayL w.heap.size w' v (layL s).2.2) /\ Below w.heap.size w w' := by
 obtain ⟨E, hE⟩ : ∃ E, E = z1t s := ⟨_, rfl⟩
 rw [<- hE]
 unfold z1t at hE
 have HE := zh hE
 clear hE
 by_cases c1 : 256 < s.size
 ·rw [if_pos c1] at HE
  have c1' : (256 : Int) < s.size := by omega
  clear c1
  go_enter Tryz.func110, Tryz.ntmps110
  go_wp2
  refine bodyPost_ret (v := .tuple #[z2y, .int .i64 1, .int .i64 0]) (by simp [results, Tryz.results110, go_sem, z2y]) rfl ?_
  exact ⟨z2y, by rw [uh HE]; rfl, z1p, fun h => absurd h (by rw [uh HE]; simp), z02 _ _⟩
 ·rw [if_neg c1] at HE
  have hs : s.size <= 256 := by omega
  have c1' : ¬ (256 : Int) < s.size := by omega
  clear c1
  have hC : Cur ((w.alloc zeroLay).alloc (.cells #[.string s, .int .i64 0] 211)) (w.heap.size + 1) s 0 := blk2 w _ _
  have hR := blk1 w zeroLay (.cells #[.string s, .int .i64 0] 211)
  have H := zh (layout_clo (w.heap.size + 1) s _ hC hs)
  have HR := zh hR
  clear hC hR
  obtain ⟨Z, hZ⟩ : ∃ Z, Z = layL s := ⟨_, rfl⟩
  rw [<- hZ] at HE H ⊢
  clear hZ
  go_enter Tryz.func110, Tryz.ntmps110
  go_wp2_with fail
  refine (uh H).mono ?_
  rintro e w1 ⟨v, rfl, ⟨T, D, Q, a1, a2, a3, n1, n2, n3, d1, d2, d3, rfl⟩, hL0, hC1, hle, hg⟩
  have hL := fun h => (hL0 h).mono (m := w.heap.size) (by first | omega | (simp; omega))
  clear hL0
  have hbw : Below w.heap.size w w1 := (((Below.refl _ _).alloc (Nat.le_refl _) _).alloc (by simp) _).trans (gr_below hg w.heap.size (by simp; omega) (by omega))
  have hR1 := z18 (uh HR) hg (by omega)
  have D1 := zh (And.intro hR1 (And.intro hC1 (And.intro hbw hL)))
  obtain ⟨q0, q1, q2, q3, qb⟩ := hC1.cells
  obtain ⟨⟨r0, r1, r2, r3, r4, r5⟩, ⟨e0, e1, e2, e3, e4, e5⟩, qr⟩ := six0 hR1
  have hS := zh (fun u0 u1 u2 u3 u4 u5 => store6 (⟨_, _, hR1⟩ : Typed w1 w.heap.size 83) u0 u1 u2 u3 u4 u5)
  clear HR H hL hC1 hg hbw hR1
  cases hok : (Z.1 && decide (Z.2.1 = s.size)) with
  | false =>
   rw [hok, if_pos rfl] at HE
   have hcase : Z.1 = false \/ (Z.1 = true /\ (Z.2.1 : Int) < s.size) := by
    cases h1 : Z.1
    ·exact .inl rfl
    ·right
     rw [h1] at hok
     simp at hok
     exact ⟨rfl, by omega⟩
   clear hok
   rcases hcase with h1 | ⟨h1, h2⟩
   ·rw [h1]
    clear h1
    go_wp2
    go_region
    go_wp2
    refine bodyPost_ret (v := .tuple #[z2y, .int .i64 2, .int .i64 Z.2.1]) (by simp [results, Tryz.results110, go_sem, z2y, r0, r1, r2, r3, r4, r5, qr]) rfl ?_
    refine ⟨z2y, by rw [uh HE]; rfl, z1p, fun h => absurd h (by rw [uh HE]; simp), ?_⟩
    have hb9 := (uh D1).2.2.1.trans ((uh hS (.int .i64 0) (.int .i64 0) (.int .i64 0) (.slice none 0 0) (.slice none 0 0) (.slice none 0 0)).2 w.heap.size (Nat.le_refl _))
    exact (hb9.alloc hb9.size _).drew
   ·rw [h1]
    clear h1
    go_wp2
    go_region
    go_wp2
    refine bodyPost_ret (v := .tuple #[z2y, .int .i64 2, .int .i64 Z.2.1]) (by simp [results, Tryz.results110, go_sem, z2y, r0, r1, r2, r3, r4, r5, qr]) rfl ?_
    refine ⟨z2y, by rw [uh HE]; rfl, z1p, fun h => absurd h (by rw [uh HE]; simp), ?_⟩
    have hb9 := (uh D1).2.2.1.trans ((uh hS (.int .i64 0) (.int .i64 0) (.int .i64 0) (.slice none 0 0) (.slice none 0 0) (.slice none 0 0)).2 w.heap.size (Nat.le_refl _))
    exact (hb9.alloc hb9.size _).drew
  | true =>
   rw [hok, if_neg (by simp)] at HE
   have h12 : Z.1 = true /\ Z.2.1 = s.size := by simpa using hok
   obtain ⟨h1, h2⟩ := h12
   have h2' : ¬ ((Z.2.1 : Int) < s.size) := by omega
   have HCL := zh ((uh D1).2.2.2 h1)
   rw [h1]
   clear hok h1 h2
   go_wp2
   refine bodyPost_ret (v := .tuple #[.agg #[.int .i64 T, .int .i64 D, .int .i64 Q, .slice a1 n1 d1, .slice a2 n2 d2, .slice a3 n3 d3], .int .i64 0, .int .i64 0]) (by simp [results, Tryz.results110, go_sem, r0, r1, r2, r3, r4, r5, qr]) rfl ?_
   have hSS := uh hS (.int .i64 T) (.int .i64 D) (.int .i64 Q) (.slice a1 n1 d1) (.slice a2 n2 d2) (.slice a3 n3 d3)
   have hb9 := (uh D1).2.2.1.trans (hSS.2 w.heap.size (Nat.le_refl _))
   refine ⟨_, by rw [uh HE]; rfl, ⟨_, _, _, _, _, _, _, _, _, _, _, _, rfl⟩, fun _ => ?_, hb9.alloc hb9.size _⟩
   exact ((uh HCL).keep hSS.1).below (z02 _ _)
def Lay.okL (L : Lay) (at_ : List Nat) : Bool := (z19 L.tns.length (L.stsAt at_)).2.all (·.done)
def z25 (s : ByteArray) : Nat × Nat :=
 if (z1t s).1 ≠ 0 then z1t s
 else if (layL s).2.2.checkOf.1 ≠ 0 then (layL s).2.2.checkOf
 else if (layL s).2.2.okL (List.replicate (layL s).2.2.tns.length 0) = false then (6, 0)
 else (0, 0)
structure Lay.Good (L : Lay) : Prop where
 paths : L.Paths
 jnys : L.Jnys
 tns : L.tns.length <= 5
 jl : ∀ t, t ∈ L.tns -> t.jny.length <= 8
 pl : ∀ r, r ∈ L.rts -> r.path.length <= 1000
theorem jnys_ok (L : Lay) (h : ∀ j, j < L.tns.length -> L.trainOK (L.tn j) (L.tns.take j) = true) : L.Jnys := by
 intro t ht r hr
 obtain ⟨j, hj, rfl⟩ := List.getElem_of_mem ht
 have := h j hj
 rw [tn_eq' L j hj] at this
 unfold Lay.trainOK at this
 simp only [Bool.and_eq_true] at this
 exact joins_lt L _ _ this.2 r hr
theorem check0 (L : Lay) (h : L.checkOf.1 = 0) (hp : L.Paths) : L.Good := by
 unfold Lay.checkOf at h
 cases hb : L.big with
 | true => rw [hb] at h; cases h
 | false =>
  rw [hb, if_neg (by simp)] at h
  cases h4 : (List.range L.rts.length).find? (fun i => !L.routeOK (L.rt i)) with
  | some i => rw [h4] at h; cases h
  | none =>
   rw [h4] at h
   simp only at h
   cases h5 : (List.range L.tns.length).find? (fun i => !L.trainOK (L.tn i) (L.tns.take i)) with
   | some i => rw [h5] at h; cases h
   | none =>
    rw [List.find?_eq_none] at h5
    unfold Lay.big at hb
    simp only [Bool.or_eq_false_iff, decide_eq_false_iff_not, List.any_eq_false] at hb
    obtain ⟨⟨⟨⟨-, -⟩, b3⟩, b4⟩, b5⟩ := hb
    refine ⟨hp, jnys_ok L (fun j hj => by simpa using h5 j (List.mem_range.2 hj)), by omega, fun t ht => ?_, fun r hr => ?_⟩
    ·have := b5 t ht; simp at this; exact this
    ·have := b4 r hr; simp at this; omega
set_option maxHeartbeats 1000000 in
theorem load_lo (s : ByteArray) (w : World) (hP : (z1t s).1 = 0 -> (layL s).2.2.Paths) :
  Calls Tryz.prog 71 #[.string s] w fun e w' => ∃ v, e = .returned (.tuple #[v, .int .i64 (z25 s).1, .int .i64 (z25 s).2]) /\ LShape v /\ ((z25 s).1 = 0 -> CLayL w.heap.size w' v (layL s).2.2 /\ (layL s).2.2.Good) /\ Below w.heap.size w w' := by
 obtain ⟨E, hE⟩ : ∃ E, E = z25 s := ⟨_, rfl⟩
 rw [<- hE]
 unfold z25 at hE
 have H1 := zh (fun w => cRead_lo s w)
 obtain ⟨F, hF⟩ : ∃ F, F = z1t s := ⟨_, rfl⟩
 rw [<- hF] at hE H1 hP
 generalize (layL s).2.2 = L at *
 have HE := zh hE
 have HP := zh hP
 clear hE hF hP
 go_enter Tryz.func71, Tryz.ntmps71
 go_wp2_with fail
 refine (uh H1 _).mono ?_
 rintro e w1 ⟨v, rfl, ⟨T, D, Q, a1, a2, a3, n1, n2, n3, d1, d2, d3, rfl⟩, hL0, hb⟩
 have hL := fun h => (hL0 h).mono (m := w.heap.size) (by simp)
 clear hL0
 have hbw : Below w.heap.size w w1 := (z02 w zeroLay).trans (hb.mono (by simp))
 have hR1 : w1.heap[w.heap.size]? = some zeroLay := (hb.block _ (by simp)).trans (heap_alloc_new w zeroLay)
 have hlt1 := z0f hR1
 have D1 := zh (And.intro hR1 (And.intro hL hbw))
 clear hb hL hbw H1 hR1
 by_cases hf0 : F.1 = 0
 ·have HCL := zh ((uh D1).2.1 hf0)
  have HPP := zh (uh HP hf0)
  rw [if_neg (by simp [hf0])] at HE
  have hfz : ((F.1 : Int) != 0) = false := by simp [hf0]
  clear hf0 HP
  have HR2 := zh ((Below.heap_alloc w1 (.cells #[.int .i64 T, .int .i64 D, .int .i64 Q, .slice a1 n1 d1, .slice a2 n2 d2, .slice a3 n3 d3] 83) _ hlt1).trans (uh D1).1)
  have HL2 := zh (heap_alloc_new w1 (.cells #[.int .i64 T, .int .i64 D, .int .i64 Q, .slice a1 n1 d1, .slice a2 n2 d2, .slice a3 n3 d3] 83))
  have HC2 := zh ((uh HCL).below (z02 w1 (.cells #[.int .i64 T, .int .i64 D, .int .i64 Q, .slice a1 n1 d1, .slice a2 n2 d2, .slice a3 n3 d3] 83)))
  have HB2 := zh ((uh D1).2.2.alloc (uh D1).2.2.size (.cells #[.int .i64 T, .int .i64 D, .int .i64 Q, .slice a1 n1 d1, .slice a2 n2 d2, .slice a3 n3 d3] 83))
  have HK := zh (cCheck_any _ L _ (uh HC2).lay (uh HPP))
  obtain ⟨C, hC⟩ : ∃ C, C = L.checkOf := ⟨_, rfl⟩
  rw [<- hC] at HK HE
  have HCO := zh hC
  clear HCL D1 hC
  go_wp2_with fail
  refine (uh HK).mono ?_
  rintro e w3 ⟨rfl, hb3⟩
  have hz3 := hb3.size
  simp at hz3
  have hR3 := (hb3.block _ (by simp; omega)).trans (uh HR2)
  have hL3 := (hb3.block _ (by simp)).trans (uh HL2)
  have HC3 := zh ((uh HC2).below hb3)
  have HB3 := zh ((uh HB2).trans (hb3.mono (uh HB2).size))
  have HR3 := zh hR3
  have HL3 := zh hL3
  clear hb3 HR2 HL2 HC2 HB2 HK
  obtain ⟨⟨r0, r1, r2, r3, r4, r5⟩, ⟨e0, e1, e2, e3, e4, e5⟩, qr⟩ := six0 hR3
  obtain ⟨⟨l0, l1, l2, l3, l4, l5⟩, -, ql⟩ := six0 hL3
  clear hR3 hL3
  by_cases hc0 : C.1 = 0
  ·rw [if_neg (by simp [hc0])] at HE
   have hcz : ((C.1 : Int) != 0) = false := by simp [hc0]
   have HG := zh (check0 L (by rw [<- uh HCO]; exact hc0) (uh HPP))
   have HA := zh (AtFirst_any _ L w3 (uh HC3).lay (by have := (uh HG).tns; omega))
   clear hc0
   go_wp2_with fail
   refine (uh HA).mono ?_
   rintro e w4 ⟨ag, ng, cg, rfl, hI4, hb4⟩
   have HR4 := zh ((hb4.block _ qr).trans (uh HR3))
   have hL4 := (hb4.block _ ql).trans (uh HL3)
   have HL4 := zh hL4
   have HC4 := zh ((uh HC3).below hb4)
   have HB4 := zh ((uh HB3).trans (hb4.mono (uh HB3).size))
   have hz4 := hb4.size
   have HO := zh (sOrder_any _ _ L _ w4 (uh HC4).lay hI4 (by simp) (uh HPP) (uh HG).jnys (by have := (uh HG).tns; omega) (fun t ht => by have := (uh HG).jl t ht; omega) (uh HG).pl (fun g hg => by have := List.eq_of_mem_replicate hg; omega))
   clear r0 r1 r2 r3 r4 r5 e0 e1 e2 e3 e4 e5 l0 l1 l2 l3 l4 l5 HA hb4 hI4
   obtain ⟨⟨l0, l1, l2, l3, l4, l5⟩, -, ql4⟩ := six0 hL4
   obtain ⟨ok, hok⟩ : ∃ ok, ok = L.okL (List.replicate L.tns.length 0) := ⟨_, rfl⟩
   rw [<- hok] at HE
   change Hid (Calls _ _ _ _ (fun e w' => ∃ a m c, e = .returned (.tuple #[.slice a m c, .bool (L.okL (List.replicate L.tns.length 0))]) /\ (_ -> _) /\ _)) at HO
   rw [<- hok] at HO
   clear hL4 hok
   go_wp2_with fail
   refine (uh HO).mono ?_
   rintro e w5 ⟨ao, no, co, rfl, -, hb5⟩
   have hR5 := (hb5.block _ (by omega)).trans (uh HR4)
   have hL5 := (hb5.block _ (by omega)).trans (uh HL4)
   have HC5 := zh ((uh HC4).below hb5)
   have HB5 := zh ((uh HB4).trans (hb5.mono (uh HB4).size))
   have hS := zh (fun u0 u1 u2 u3 u4 u5 => store6 (⟨_, _, hR5⟩ : Typed w5 w.heap.size 83) u0 u1 u2 u3 u4 u5)
   clear l0 l1 l2 l3 l4 l5 hb5 HO
   obtain ⟨⟨r0, r1, r2, r3, r4, r5⟩, ⟨e0, e1, e2, e3, e4, e5⟩, qr5⟩ := six0 hR5
   obtain ⟨⟨l0, l1, l2, l3, l4, l5⟩, -, ql5⟩ := six0 hL5
   clear hR5 hL5
   cases ok with
   | false =>
    rw [if_pos rfl] at HE
    go_wp2
    refine bodyPost_ret (v := .tuple #[z2y, .int .i64 6, .int .i64 0]) (by simp [results, Tryz.results71, go_sem, z2y, r0, r1, r2, r3, r4, r5]) rfl ?_
    exact ⟨z2y, by rw [uh HE]; rfl, z1p, fun h => absurd h (by rw [uh HE]; simp), (uh HB5).trans ((uh hS _ _ _ _ _ _).2 w.heap.size (Nat.le_refl _))⟩
   | true =>
    rw [if_neg (by simp)] at HE
    go_wp2
    refine bodyPost_ret (v := .tuple #[.agg #[.int .i64 T, .int .i64 D, .int .i64 Q, .slice a1 n1 d1, .slice a2 n2 d2, .slice a3 n3 d3], .int .i64 0, .int .i64 0]) (by simp [results, Tryz.results71, go_sem, r0, r1, r2, r3, r4, r5]) rfl ?_
    exact ⟨_, by rw [uh HE]; rfl, ⟨_, _, _, _, _, _, _, _, _, _, _, _, rfl⟩, fun _ => ⟨(uh HC5).keep (uh hS _ _ _ _ _ _).1, uh HG⟩, (uh HB5).trans ((uh hS _ _ _ _ _ _).2 w.heap.size (Nat.le_refl _))⟩
  ·rw [if_pos hc0] at HE
   have hcz : ((C.1 : Int) != 0) = true := by simp [hc0]
   have hS := zh (fun u0 u1 u2 u3 u4 u5 => store6 (⟨_, _, uh HR3⟩ : Typed w3 w.heap.size 83) u0 u1 u2 u3 u4 u5)
   have HC0 := zh hc0
   clear hc0
   go_wp2
   refine bodyPost_ret (v := .tuple #[z2y, .int .i64 C.1, .int .i64 C.2]) (by simp [results, Tryz.results71, go_sem, z2y, r0, r1, r2, r3, r4, r5]) rfl ?_
   exact ⟨z2y, by rw [uh HE], z1p, fun h => absurd h (by rw [uh HE]; exact uh HC0), (uh HB3).trans ((uh hS _ _ _ _ _ _).2 w.heap.size (Nat.le_refl _))⟩
 ·rw [if_pos hf0] at HE
  have hfz : ((F.1 : Int) != 0) = true := by simp [hf0]
  obtain ⟨⟨r0, r1, r2, r3, r4, r5⟩, ⟨e0, e1, e2, e3, e4, e5⟩, qr⟩ := six0 (uh D1).1
  have HF0 := zh hf0
  clear hf0
  have hS := zh (fun u0 u1 u2 u3 u4 u5 => store6 (⟨_, _, (uh D1).1⟩ : Typed w1 w.heap.size 83) u0 u1 u2 u3 u4 u5)
  go_wp2
  refine bodyPost_ret (v := .tuple #[z2y, .int .i64 F.1, .int .i64 F.2]) (by simp [results, Tryz.results71, go_sem, z2y, r0, r1, r2, r3, r4, r5, qr]) rfl ?_
  have hb9 := (uh D1).2.2.trans ((uh hS (.int .i64 0) (.int .i64 0) (.int .i64 0) (.slice none 0 0) (.slice none 0 0) (.slice none 0 0)).2 w.heap.size (Nat.le_refl _))
  exact ⟨z2y, by rw [uh HE], z1p, fun h => absurd h (by rw [uh HE]; exact uh HF0), hb9.alloc hb9.size _⟩
theorem load_any (s : ByteArray) (w : World) (hP : (z1t s).1 = 0 -> (layL s).2.2.Paths) :
  Calls Tryz.prog 71 #[.string s] w fun e w' => ∃ v, e = .returned (.tuple #[v, .int .i64 (z25 s).1, .int .i64 (z25 s).2]) /\ LShape v /\ ((z25 s).1 = 0 -> CLay w' v (layL s).2.2 /\ (layL s).2.2.Good) /\ Below w.heap.size w w' :=
 (load_lo s w hP).mono (fun _ _ ⟨v, a, b, c, d⟩ => ⟨v, a, b, fun h => ⟨(c h).1.lay, (c h).2⟩, d⟩)
def z3d (s : ByteArray) : Prop := (z1t s).1 = 0 -> (layL s).2.2.Paths
set_option maxHeartbeats 400000 in
theorem lCheck_any (s : ByteArray) (w : World) (hP : z3d s) :
  Calls Tryz.prog 61 #[.string s] w fun e w' => e = .returned (.tuple #[.int .i64 (z25 s).1, .int .i64 (z25 s).2]) /\ Below w.heap.size w w' := by
 have H := zh (load_any s w hP)
 generalize z25 s = E at *
 clear hP
 go_enter Tryz.func61, Tryz.ntmps61
 go_wp2_with fail
 refine (uh H).mono ?_
 rintro e w1 ⟨v, rfl, ⟨T, D, Q, a1, a2, a3, n1, n2, n3, d1, d2, d3, rfl⟩, -, hb⟩
 go_wp2
 go_ret2
 exact ⟨rfl, by first | exact hb | exact hb.trans ((z02 _ _).mono hb.size)⟩
def ordOf (s a : ByteArray) : Bool × Nat :=
 if (z25 s).1 ≠ 0 then (false, (z25 s).1)
 else if (layL s).2.2.stateB a.data.toList = false then (false, 7)
 else ((layL s).2.2.okL (digs a.data.toList), 0)
theorem z3x {L : Lay} {l : List UInt8} (h : L.stateB l = true) : (digs l).length = L.tns.length := by
 unfold Lay.stateB at h
 simp at h
 simp [digs, h.1]
theorem digs_le (l : List UInt8) : ∀ g, g ∈ digs l -> g <= 1000 := by
 intro g hg
 simp only [digs, List.mem_map] at hg
 obtain ⟨c, -, rfl⟩ := hg
 have : c.toNat < 256 := c.toNat_lt
 omega
set_option maxHeartbeats 1000000 in
theorem orderFrom_any (s a : ByteArray) (w : World) (hP : z3d s) :
  Calls Tryz.prog 104 #[.string s, .string a] w fun e w' => ∃ (ao : Option Addr) (no co : Nat), e = .returned (.tuple #[.slice ao no co, .bool (ordOf s a).1, .int .i64 (ordOf s a).2]) ∧
   ((ordOf s a).1 = true -> Ints w' (.slice ao no co) (z19 (layL s).2.2.tns.length ((layL s).2.2.stsAt (digs a.data.toList))).1) /\ Below w.heap.size w w' := by
 have H := zh (load_any s w hP)
 obtain ⟨E, hE⟩ : ∃ E, E = ordOf s a := ⟨_, rfl⟩
 rw [<- hE]
 unfold ordOf at hE
 generalize z25 s = F at *
 generalize (layL s).2.2 = L at *
 have HE := zh hE
 clear hP hE
 go_enter Tryz.func104, Tryz.ntmps104
 go_wp2_with fail
 refine (uh H).mono ?_
 rintro e w1 ⟨v, rfl, ⟨T, D, Q, a1, a2, a3, n1, n2, n3, d1, d2, d3, rfl⟩, hL, hb⟩
 have D1 := zh (And.intro hL hb)
 have hz1 := hb.size
 clear hL hb H
 by_cases hf0 : F.1 = 0
 ·obtain ⟨hC1, hG⟩ := (uh D1).1 hf0
  rw [if_neg (by simp [hf0])] at HE
  have hfz : ((F.1 : Int) != 0) = false := by simp [hf0]
  have HG := zh hG
  have HL2 := zh (heap_alloc_new w1 (.cells #[.int .i64 T, .int .i64 D, .int .i64 Q, .slice a1 n1 d1, .slice a2 n2 d2, .slice a3 n3 d3] 83))
  have HC2 := zh (hC1.below (z02 w1 (.cells #[.int .i64 T, .int .i64 D, .int .i64 Q, .slice a1 n1 d1, .slice a2 n2 d2, .slice a3 n3 d3] 83)))
  have HB2 := zh ((uh D1).2.alloc (uh D1).2.size (.cells #[.int .i64 T, .int .i64 D, .int .i64 Q, .slice a1 n1 d1, .slice a2 n2 d2, .slice a3 n3 d3] 83))
  have HRS := zh (ReadState_any _ L a _ (uh HC2) (by have := hG.tns; omega) hG.jl)
  obtain ⟨st, hst⟩ : ∃ st, st = L.stateB a.data.toList := ⟨_, rfl⟩
  rw [<- hst] at HRS HE
  have HST := zh hst
  clear hf0 hC1 hG D1 hst
  go_wp2_with fail
  refine (uh HRS).mono ?_
  rintro e w3 ⟨v', rfl, hI3, hb3⟩
  have hL3 := (hb3.block _ (by simp)).trans (uh HL2)
  have HL3 := zh hL3
  have HC3 := zh ((uh HC2).below hb3)
  have HB3 := zh ((uh HB2).trans (hb3.mono (uh HB2).size))
  obtain ⟨⟨l0, l1, l2, l3, l4, l5⟩, -, ql⟩ := six0 hL3
  have HI3 := zh hI3
  clear hb3 HL2 HC2 HB2 HRS hL3 hI3
  cases st with
  | false =>
   rw [if_pos rfl] at HE
   go_wp2
   go_ret3
   exact ⟨none, 0, 0, by rw [uh HE]; rfl, fun h => absurd h (by rw [uh HE]; simp), uh HB3⟩
  | true =>
   rw [if_neg (by simp)] at HE
   have hI4 := uh HI3 rfl
   obtain ⟨ai, ci, hv', -, -, -⟩ := SlAt.open hI4
   have HO := zh (sOrder_any _ _ L _ w3 (uh HC3) hI4 (z3x (uh HST).symm) (uh HG).paths (uh HG).jnys (by have := (uh HG).tns; omega) (fun t ht => by have := (uh HG).jl t ht; omega) (uh HG).pl (digs_le _))
   obtain ⟨ok, hok⟩ : ∃ ok, ok = L.okL (digs a.data.toList) := ⟨_, rfl⟩
   rw [<- hok] at HE
   change Hid (Calls _ _ _ _ (fun e w' => ∃ a' m c, e = .returned (.tuple #[.slice a' m c, .bool (L.okL (digs a.data.toList))]) /\ (L.okL (digs a.data.toList) = true -> _) /\ _)) at HO
   rw [<- hok] at HO
   subst hv'
   clear hok hI4 HI3
   go_wp2_with fail
   refine (uh HO).mono ?_
   rintro e w5 ⟨ao, no, co, rfl, hI5, hb5⟩
   have HB5 := zh ((uh HB3).trans (hb5.mono (uh HB3).size))
   have HI5 := zh hI5
   clear l0 l1 l2 l3 l4 l5 hb5 HO hI5
   go_wp2
   go_ret3
   exact ⟨ao, no, co, by rw [uh HE] <;> rfl, fun h => uh HI5 (by rw [uh HE] at h; exact h), uh HB5⟩
 ·rw [if_pos hf0] at HE
  have hfz : ((F.1 : Int) != 0) = true := by simp [hf0]
  have hb3 := zh ((uh D1).2.alloc hz1 (.cells #[.int .i64 T, .int .i64 D, .int .i64 Q, .slice a1 n1 d1, .slice a2 n2 d2, .slice a3 n3 d3] 83))
  clear hf0
  go_wp2
  go_ret3
  exact ⟨none, 0, 0, by rw [uh HE]; rfl, fun h => absurd h (by rw [uh HE]; simp), uh hb3⟩
set_option maxHeartbeats 400000 in
theorem lSafe_any (s a : ByteArray) (w : World) (hP : z3d s) :
  Calls Tryz.prog 62 #[.string s, .string a] w fun e w' => e = .returned (.tuple #[.bool (ordOf s a).1, .int .i64 (ordOf s a).2]) /\ Below w.heap.size w w' := by
 have H := zh (orderFrom_any s a w hP)
 generalize ordOf s a = E at *
 clear hP
 go_enter Tryz.func62, Tryz.ntmps62
 go_wp2_with fail
 refine (uh H).mono ?_
 rintro e w1 ⟨ao, no, co, rfl, -, hb⟩
 go_wp2
 go_ret2
 exact ⟨rfl, hb⟩
theorem num_any (x : Int) (w : World) :
  Calls Tryz.prog 59 #[.int .i64 x] w fun e w' => e = .returned (.int .i64 x) /\ w' = w := by
 go_enter Tryz.func59, Tryz.ntmps59
 go_wp2
 go_ret
 exact ⟨rfl, rfl⟩
set_option maxHeartbeats 1000000 in
theorem Checks_any (s : ByteArray) (w : World) (hF : FormOK) (hP : z3d s) (hA1 : (z25 s).1 = (errOf s.data.toList).1) (hA2 : ((z25 s).2 : Int) = (errOf s.data.toList).2) :
  Calls Tryz.prog 25 #[.string s] w fun e w' => e = .returned (.bool true) /\ Below w.heap.size w w' := by
 have H1 := zh (lCheck_any s w hP)
 have H2 := zh (fun (w : World) => rCheck_any s w hF)
 rw [<- hA1, <- hA2] at H2
 generalize (z25 s).1 = a at *
 generalize (z25 s).2 = b at *
 clear hF hP hA1 hA2
 go_enter Tryz.func25, Tryz.ntmps25
 go_wp2_with fail
 refine (uh H1).mono ?_
 rintro e w1 ⟨rfl, hb1⟩
 have HB1 := zh hb1
 clear hb1
 go_wp2_with fail
 refine (uh H2 w1).mono ?_
 rintro e w2 ⟨rfl, hb2⟩
 have HB2 := zh ((uh HB1).trans (hb2.mono (uh HB1).size))
 clear hb2
 go_wp2
 go_ret
 exact ⟨rfl, uh HB2⟩
set_option maxHeartbeats 1000000 in
theorem Safes_any (s a : ByteArray) (w : World) (hF : FormOK) (hP : z3d s) (hA : ordOf s a = z3u s.data.toList a.data.toList) :
  Calls Tryz.prog 26 #[.string s, .string a] w fun e w' => e = .returned (.bool true) /\ Below w.heap.size w w' := by
 have H1 := zh (lSafe_any s a w hP)
 have H2 := zh (fun (w : World) => rSafe_any s a w hF)
 rw [<- hA] at H2
 generalize (ordOf s a).1 = x at *
 generalize (ordOf s a).2 = y at *
 clear hF hP hA
 go_enter Tryz.func26, Tryz.ntmps26
 go_wp2_with fail
 refine (uh H1).mono ?_
 rintro e w1 ⟨rfl, hb1⟩
 have HB1 := zh hb1
 clear hb1
 go_wp2_with fail
 refine (uh H2 w1).mono ?_
 rintro e w2 ⟨rfl, hb2⟩
 have HB2 := zh ((uh HB1).trans (hb2.mono (uh HB1).size))
 clear hb2
 go_wp2
 go_ret
 exact ⟨rfl, uh HB2⟩
end Go.Proofs.YtkbpocecbcaiiaaGreatDoor
namespace Go.Proofs.YtkbpocecbcaiiaaGreatDoor
def bt (s : ByteArray) (p : Nat) : UInt8 := s.data.toList.getD p 0
theorem pk_bt (s : ByteArray) (p : Nat) : pk s p = (bt s p).toNat := rfl
def sl (s : ByteArray) (p q : Nat) : List UInt8 := (s.data.toList.drop p).take (q - p)
theorem sl_nil (s : ByteArray) (p : Nat) : sl s p p = [] := by simp [sl]
theorem sl_len (s : ByteArray) (p q : Nat) (h : q <= s.size) : (sl s p q).length = q - p := by simp [sl]; omega
theorem z2z (s : ByteArray) (p q : Nat) (h : p < q) (hq : q <= s.size) : sl s p q = bt s p :: sl s (p + 1) q := by
 have hp : p < s.data.toList.length := by simp; omega
 unfold sl
 rw [List.drop_eq_getElem_cons hp, show q - p = (q - (p + 1)) + 1 by omega, List.take_succ_cons]
 congr 1
 simp [bt, List.getD_eq_getElem?_getD, List.getElem?_eq_getElem hp]
theorem sl_all (s : ByteArray) : sl s 0 s.size = s.data.toList := by
 unfold sl
 rw [List.drop_zero, List.take_of_length_le (by simp)]
theorem sl_drop (s : ByteArray) (p q k : Nat) : (sl s p q).drop k = sl s (p + k) q := by
 unfold sl
 rw [List.drop_take, List.drop_drop, show q - p - k = q - (p + k) by omega]
theorem sl_get0 (s : ByteArray) (p q : Nat) (h : p < q) (hq : q <= s.size) : (sl s p q).getD 0 0 = bt s p := by
 rw [z2z s p q h hq]; rfl
theorem split_none (s : ByteArray) (c : UInt8) (q m : Nat) (hmq : m <= q) (hq : q <= s.size) : ∀ (n p : Nat), p + n = m -> ∀ pre, (∀ i, p <= i -> i < m -> bt s i ≠ c) -> z0r c pre (sl s p q) = z0r c (pre ++ sl s p m) (sl s m q) := by
 intro n
 induction n with
 | zero =>
  intro p h pre _
  obtain rfl : p = m := by omega
  rw [sl_nil, List.append_nil]
 | succ n ih =>
  intro p h pre hne
  rw [z2z s p q (by omega) hq, z2z s p m (by omega) (by omega), z0r, if_neg (hne p (Nat.le_refl _) (by omega)), ih (p + 1) (by omega) _ (fun i h1 h2 => hne i (by omega) h2)]
  simp
theorem split_hit (s : ByteArray) (c : UInt8) (m q : Nat) (pre : List UInt8) (h : m < q) (hq : q <= s.size) (hc : bt s m = c) : z0r c pre (sl s m q) = pre :: z0r c [] (sl s (m + 1) q) := by
 rw [z2z s m q h hq, z0r, if_pos hc]
theorem split_end (s : ByteArray) (c : UInt8) (q : Nat) (pre : List UInt8) : z0r c pre (sl s q q) = [pre] := by rw [sl_nil]; rfl
theorem z3y (s : ByteArray) (c : UInt8) (p q : Nat) (h : p <= q) (hq : q <= s.size) (hne : ∀ i, p <= i -> i < q -> bt s i ≠ c) : z0r c [] (sl s p q) = [sl s p q] := by
 rw [split_none s c q q (Nat.le_refl _) hq (q - p) p (by omega) [] hne, split_end]; rfl
theorem z3e (s : ByteArray) (c : UInt8) (p m q : Nat) (h : p <= m) (h2 : m < q) (hq : q <= s.size) (hne : ∀ i, p <= i -> i < m -> bt s i ≠ c) (hc : bt s m = c) : z0r c [] (sl s p q) = sl s p m :: z0r c [] (sl s (m + 1) q) := by
 rw [split_none s c q m (by omega) hq (m - p) p (by omega) [] hne, split_hit s c m q _ h2 hq hc]; rfl
def PS (s : ByteArray) (a : Int) (p : Nat) : Int := z16 a p (s.data.toList.drop p)
theorem st_0 (c : Nat) : stepS 0 c = if inB 49 57 c then 1 else -1 := by
 unfold stepS firstS inB; simp; (repeat' split) <;> omega
theorem st_1 (c : Nat) : stepS 1 c = if inB 49 57 c then 2 else -1 := by
 unfold stepS firstS inB; simp; (repeat' split) <;> omega
theorem st_2 (c : Nat) : stepS 2 c = if inB 49 57 c then 3 else -1 := by
 unfold stepS firstS inB; simp; (repeat' split) <;> omega
theorem st_3 (c : Nat) : stepS 3 c = if c = 47 then 4 else -1 := by
 unfold stepS firstS; simp; (repeat' split) <;> omega
theorem st_4 (c : Nat) : stepS 4 c = if c = 46 \/ c = 121 then 5 else -1 := by
 unfold stepS firstS; simp; (repeat' split) <;> omega
theorem st_5 (c : Nat) : stepS 5 c = if c = 46 \/ c = 121 then 5 else if c = 47 then 6 else -1 := by
 unfold stepS firstS; simp; (repeat' split) <;> omega
theorem let_in (c : Nat) : z27 (c : Int) = inB 97 112 c := by
 unfold z27 inB; rw [Bool.eq_iff_iff]; simp; omega
theorem cap_in (c : Nat) : z3h (c : Int) = inB 65 76 c := by
 unfold z3h inB; rw [Bool.eq_iff_iff]; simp; omega
theorem sgn_in (c : Nat) : signB (c : Int) = (sgn c != 0) := by
 unfold signB sgn; rw [Bool.eq_iff_iff]; simp; (repeat' split) <;> simp <;> omega
theorem st_6 (c : Nat) : stepS 6 c = if inB 97 112 c then 7 else -1 := by
 unfold stepS z22; simp [let_in]
theorem st_7 (c : Nat) : stepS 7 c = if c = 62 then 8 else -1 := by
 unfold stepS z22; simp; (repeat' split) <;> omega
theorem st_8 (c : Nat) : stepS 8 c = if inB 97 112 c then 9 else -1 := by
 unfold stepS z22; simp [let_in]
theorem st_9 (c : Nat) : stepS 9 c = if inB 97 112 c then 9 else if sgn c ≠ 0 then 10 else if c = 33 then 11 else if c = 44 then 6 else if c = 47 then 14 else -1 := by
 unfold stepS z22; simp [let_in, sgn_in]; (repeat' split) <;> omega
theorem st_10 (c : Nat) : stepS 10 c = if inB 97 112 c then 9 else if c = 33 then 11 else if c = 44 then 6 else if c = 47 then 14 else -1 := by
 unfold stepS z22; simp [let_in]; (repeat' split) <;> omega
theorem st_11 (c : Nat) : stepS 11 c = if inB 97 112 c then 12 else -1 := by
 unfold stepS z22; simp [let_in]
theorem st_12 (c : Nat) : stepS 12 c = if sgn c ≠ 0 then 13 else -1 := by
 unfold stepS z22; simp [sgn_in]
theorem st_13 (c : Nat) : stepS 13 c = if inB 97 112 c then 12 else if c = 44 then 6 else if c = 47 then 14 else -1 := by
 unfold stepS z22; simp [let_in]; (repeat' split) <;> omega
theorem st_14 (c : Nat) : stepS 14 c = if inB 97 112 c then 15 else -1 := by
 unfold stepS lastS; simp [let_in]
theorem st_15 (c : Nat) : stepS 15 c = if inB 65 76 c then 16 else -1 := by
 unfold stepS lastS; simp [cap_in]
theorem st_16 (c : Nat) : stepS 16 c = if inB 65 76 c then 16 else if c = 44 then 14 else -1 := by
 unfold stepS lastS; simp [cap_in]; (repeat' split) <;> omega
theorem PS_go (s : ByteArray) (a b : Int) (p : Nat) (h : stepS a (pk s p) = b) (hb : b ≠ -1) (hp : p < s.size) : PS s a p = PS s b (p + 1) := by
 unfold PS
 rw [placeS_go s a p hp (by rw [<- pk_in s p hp, h]; exact hb), <- pk_in s p hp, h]
theorem z2a (s : ByteArray) (a : Int) (p : Nat) (h : stepS a (pk s p) = -1) (ha : a ≠ 16) (hp : p <= s.size) : PS s a p = p := by
 have _ := hp
 unfold PS
 by_cases hlt : p < s.size
 ·exact placeS_hit s a p hlt (by rw [<- pk_in s p hlt]; exact h)
 ·rw [placeS_end s a p hlt, if_neg ha]
theorem PS_last (s : ByteArray) (p : Nat) (h : stepS 16 (pk s p) = -1) (hp : p <= s.size) : PS s 16 p = if p = s.size then -1 else (p : Int) := by
 unfold PS
 by_cases hlt : p < s.size
 ·rw [placeS_hit s 16 p hlt (by rw [<- pk_in s p hlt]; exact h), if_neg (by omega)]
 ·rw [placeS_end s 16 p hlt, if_pos rfl, if_pos (by omega)]
end Go.Proofs.YtkbpocecbcaiiaaGreatDoor
namespace Go.Proofs.YtkbpocecbcaiiaaGreatDoor
def isLS (c : Nat) : Prop := inB 97 112 c = true \/ sgn c ≠ 0
theorem isLS_ne {c : Nat} (h : isLS c) : c ≠ 33 /\ c ≠ 44 /\ c ≠ 47 /\ c ≠ 62 := by
 rcases h with h | h
 ·unfold inB at h; simp at h; omega
 ·unfold sgn at h; (repeat' split at h) <;> omega
theorem in_lt (s : ByteArray) (p : Nat) (lo hi : Nat) (h : inB lo hi (pk s p) = true) (hl : 0 < lo) : p < s.size := by
 apply pk_pos
 unfold inB at h; simp at h; omega
theorem sgn_lt (s : ByteArray) (p : Nat) (h : sgn (pk s p) ≠ 0) : p < s.size := by
 apply pk_pos
 intro e; rw [e] at h; exact h rfl
theorem eq_lt (s : ByteArray) (p c : Nat) (h : pk s p = c) (hc : c ≠ 0) : p < s.size := pk_pos s p (by omega)
theorem sgn_id (c : Nat) (h : sgn c ≠ 0) : sgn c = c := by unfold sgn at *; (repeat' split at h) <;> simp_all
theorem inB_sgn (c : Nat) (h : sgn c ≠ 0) : inB 97 112 c = false := by unfold sgn at h; unfold inB; (repeat' split at h) <;> simp_all
theorem isLet_in (s : ByteArray) (p : Nat) : isLet (bt s p) = inB 97 112 (pk s p) := rfl
theorem mark_let (acc : List (Nat × Nat)) (s : ByteArray) (p : Nat) (h : inB 97 112 (pk s p) = true) : z0u acc (bt s p) = acc ++ [(pk s p - 97, 0)] := by
 unfold z0u; rw [isLet_in, h]; rfl
theorem mark_sgn (acc : List (Nat × Nat)) (x : Nat) (s : ByteArray) (p : Nat) (h : sgn (pk s p) ≠ 0) : z0u (acc ++ [(x, 0)]) (bt s p) = acc ++ [(x, sgn (pk s p))] := by
 unfold z0u
 rw [isLet_in, inB_sgn _ h, if_neg (by simp), sgn_id _ h]
 simp [List.getD_eq_getElem?_getD, pk_bt]
theorem path_ok (s : ByteArray) : ∀ (f p : Nat), p <= s.size -> s.size < p + f →
  p <= (pathL s f p).2 /\ (pathL s f p).2 <= s.size /\ (∀ i, p <= i -> i < (pathL s f p).2 -> isLS (pk s i)) /\ (∀ acc, (sl s p (pathL s f p).2).foldl z0u acc = acc ++ (pathL s f p).1) ∧
  inB 97 112 (pk s (pathL s f p).2) = false /\ ((pathL s f p).1 = [] -> (pathL s f p).2 = p) ∧
  ((pathL s f p).1 ≠ [] -> p < (pathL s f p).2 /\ ∃ b : Int, ((b = 9 /\ sgn (pk s (pathL s f p).2) = 0) \/ b = 10) /\ ∀ a : Int, (a = 8 \/ a = 9 \/ a = 10) -> PS s a p = PS s b (pathL s f p).2) := by
 intro f
 induction f with
 | zero => intro p h1 h2; omega
 | succ f ih =>
  intro p h1 h2
  unfold pathL
  cases hl : inB 97 112 (pk s p) with
  | false =>
   simp only [if_neg (Bool.false_ne_true)]
   refine ⟨Nat.le_refl _, h1, fun i a b => by omega, fun acc => by rw [sl_nil]; simp, hl, fun _ => trivial, fun h => absurd rfl h⟩
  | true =>
   simp only [if_pos]
   have hp := in_lt s p 97 112 hl (by omega)
   by_cases hs : sgn (pk s (p + 1)) = 0
   ·rw [hs]
    have e1 : adv ((0 : Nat) != 0) (p + 1) = p + 1 := rfl
    rw [e1]
    obtain ⟨i1, i2, i3, i4, i5, i6, i7⟩ := ih (p + 1) (by omega) (by omega)
    refine ⟨by omega, i2, fun i a b => ?_, fun acc => ?_, i5, fun h => absurd h (by simp), fun _ => ⟨by omega, ?_⟩⟩
    ·rcases Nat.lt_or_ge p i with h | h
     ·exact i3 i (by omega) b
     ·obtain rfl : i = p := by omega
      exact .inl hl
    ·rw [z2z s p _ (by omega) i2, List.foldl_cons, mark_let acc s p hl, i4]; simp
    ·have hst : ∀ a : Int, (a = 8 \/ a = 9 \/ a = 10) -> PS s a p = PS s 9 (p + 1) := by
      rintro a (rfl | rfl | rfl)
      ·exact PS_go s 8 9 p (by rw [st_8, hl]; rfl) (by decide) hp
      ·exact PS_go s 9 9 p (by rw [st_9, hl]; rfl) (by decide) hp
      ·exact PS_go s 10 9 p (by rw [st_10, hl]; rfl) (by decide) hp
     by_cases hn : (pathL s f (p + 1)).1 = []
     ·refine ⟨9, .inl ⟨rfl, by rw [i6 hn]; exact hs⟩, fun a ha => ?_⟩
      rw [hst a ha, i6 hn]
     ·obtain ⟨_, b, hb, hB⟩ := i7 hn
      exact ⟨b, hb, fun a ha => by rw [hst a ha]; exact hB 9 (.inr (.inl rfl))⟩
   ·have e1 : adv (sgn (pk s (p + 1)) != 0) (p + 1) = p + 2 := by unfold adv; rw [if_pos (by simpa using hs)]
    rw [e1]
    have hp1 := sgn_lt s (p + 1) hs
    obtain ⟨i1, i2, i3, i4, i5, i6, i7⟩ := ih (p + 2) (by omega) (by omega)
    refine ⟨by omega, i2, fun i a b => ?_, fun acc => ?_, i5, fun h => absurd h (by simp), fun _ => ⟨by omega, ?_⟩⟩
    ·rcases Nat.lt_or_ge (p + 1) i with h | h
     ·exact i3 i (by omega) b
     ·rcases Nat.lt_or_ge p i with h' | h'
      ·obtain rfl : i = p + 1 := by omega
       exact .inr hs
      ·obtain rfl : i = p := by omega
       exact .inl hl
    ·rw [z2z s p _ (by omega) i2, z2z s (p + 1) _ (by omega) i2, List.foldl_cons, List.foldl_cons, mark_let acc s p hl, mark_sgn acc _ s (p + 1) hs, i4]; simp
    ·have hst : ∀ a : Int, (a = 8 \/ a = 9 \/ a = 10) -> PS s a p = PS s 10 (p + 2) := by
      have h9 : PS s 9 (p + 1) = PS s 10 (p + 2) := PS_go s 9 10 (p + 1) (by rw [st_9, inB_sgn _ hs, if_neg (by simp), if_pos hs]) (by decide) hp1
      rintro a (rfl | rfl | rfl)
      ·rw [<- h9]; exact PS_go s 8 9 p (by rw [st_8, hl]; rfl) (by decide) hp
      ·rw [<- h9]; exact PS_go s 9 9 p (by rw [st_9, hl]; rfl) (by decide) hp
      ·rw [<- h9]; exact PS_go s 10 9 p (by rw [st_10, hl]; rfl) (by decide) hp
     by_cases hn : (pathL s f (p + 2)).1 = []
     ·exact ⟨10, .inr rfl, fun a ha => by rw [hst a ha, i6 hn]⟩
     ·obtain ⟨_, b, hb, hB⟩ := i7 hn
      exact ⟨b, hb, fun a ha => by rw [hst a ha]; exact hB 10 (.inr (.inr rfl))⟩
theorem flank_ok (s : ByteArray) : ∀ (f p : Nat), p <= s.size -> s.size < p + f →
  p <= (z0y s f p).2.1 /\ (z0y s f p).2.1 <= s.size /\ ((z0y s f p).2.2 = false -> ∀ a : Int, (a = 11 \/ a = 13) -> PS s a p = (z0y s f p).2.1) ∧
  ((z0y s f p).2.2 = true -> (∀ i, p <= i -> i < (z0y s f p).2.1 -> isLS (pk s i)) /\ (∀ acc, (sl s p (z0y s f p).2.1).foldl z0u acc = acc ++ (z0y s f p).1) ∧
    inB 97 112 (pk s (z0y s f p).2.1) = false /\ ((z0y s f p).1 = [] -> (z0y s f p).2.1 = p) ∧
    ((z0y s f p).1 ≠ [] -> p < (z0y s f p).2.1 /\ ∀ a : Int, (a = 11 \/ a = 13) -> PS s a p = PS s 13 (z0y s f p).2.1)) := by
 intro f
 induction f with
 | zero => intro p h1 h2; omega
 | succ f ih =>
  intro p h1 h2
  unfold z0y
  cases hl : inB 97 112 (pk s p) with
  | false =>
   simp only [if_neg (Bool.false_ne_true)]
   refine ⟨Nat.le_refl _, h1, fun h => absurd h (by simp), fun _ => ⟨fun i a b => by omega, fun acc => by rw [sl_nil]; simp, hl, fun _ => trivial, fun h => absurd rfl h⟩⟩
  | true =>
   simp only [if_pos]
   have hp := in_lt s p 97 112 hl (by omega)
   have h12 : ∀ a : Int, (a = 11 \/ a = 13) -> PS s a p = PS s 12 (p + 1) := by
    rintro a (rfl | rfl)
    ·exact PS_go s 11 12 p (by rw [st_11, hl]; rfl) (by decide) hp
    ·exact PS_go s 13 12 p (by rw [st_13, hl]; rfl) (by decide) hp
   by_cases hs : sgn (pk s (p + 1)) = 0
   ·simp only [hs, if_true]
    refine ⟨by omega, by omega, fun _ a ha => ?_, fun h => absurd h (by simp)⟩
    rw [h12 a ha]
    exact z2a s 12 (p + 1) (by rw [st_12, if_neg (by simpa using hs)]) (by decide) (by omega)
   ·simp only [if_neg hs]
    have hp1 := sgn_lt s (p + 1) hs
    have h13 : PS s 12 (p + 1) = PS s 13 (p + 2) := PS_go s 12 13 (p + 1) (by rw [st_12, if_pos hs]) (by decide) hp1
    obtain ⟨i1, i2, i3, i4⟩ := ih (p + 2) (by omega) (by omega)
    refine ⟨by omega, i2, fun h a ha => by rw [h12 a ha, h13]; exact i3 h 13 (.inr rfl), fun h => ?_⟩
    obtain ⟨j1, j2, j3, j4, j5⟩ := i4 h
    refine ⟨fun i a b => ?_, fun acc => ?_, j3, fun h => absurd h (by simp), fun _ => ⟨by omega, fun a ha => ?_⟩⟩
    ·rcases Nat.lt_or_ge (p + 1) i with h | h
     ·exact j1 i (by omega) b
     ·rcases Nat.lt_or_ge p i with h' | h'
      ·obtain rfl : i = p + 1 := by omega
       exact .inr hs
      ·obtain rfl : i = p := by omega
       exact .inl hl
    ·rw [z2z s p _ (by omega) i2, z2z s (p + 1) _ (by omega) i2, List.foldl_cons, List.foldl_cons, mark_let acc s p hl, mark_sgn acc _ s (p + 1) hs, j2]; simp
    ·rw [h12 a ha, h13]
     by_cases hn : (z0y s f (p + 2)).1 = []
     ·rw [j4 hn]
     ·exact (j5 hn).2 13 (.inr rfl)
end Go.Proofs.YtkbpocecbcaiiaaGreatDoor
namespace Go.Proofs.YtkbpocecbcaiiaaGreatDoor
theorem bt_ne {s : ByteArray} {p : Nat} {c : UInt8} (h : pk s p ≠ c.toNat) : bt s p ≠ c := by
 intro e; apply h; rw [pk_bt, e]
theorem bt_eq {s : ByteArray} {p : Nat} {c : UInt8} (h : pk s p = c.toNat) : bt s p = c := by
 rw [pk_bt] at h; exact UInt8.toNat_inj.1 h
def Stop (s : ByteArray) (b : Int) (q : Nat) : Prop := (b = 9 \/ b = 10 \/ b = 13) /\ stepS b (pk s q) = if pk s q = 44 then 6 else if pk s q = 47 then 14 else -1
theorem route_ok (s : ByteArray) (p : Nat) (hp : p <= s.size) (hs : s.size <= 256) :
  ((z1c s p).1 = false -> PS s 6 p = (z1c s p).2.1) ∧
  ((z1c s p).1 = true -> p + 2 <= (z1c s p).2.1 /\ (z1c s p).2.1 <= s.size /\ (∀ i, p <= i -> i < (z1c s p).2.1 -> pk s i ≠ 44 /\ pk s i ≠ 47) ∧
    z31 (sl s p (z1c s p).2.1) = (z1c s p).2.2 /\ (z1c s p).2.2.path ≠ [] /\ 97 <= pk s p /\ ∃ b, Stop s b (z1c s p).2.1 /\ PS s 6 p = PS s b (z1c s p).2.1) := by
 unfold z1c
 cases h0 : inB 97 112 (pk s p) with
 | false =>
  simp only [if_true]
  exact ⟨fun _ => z2a s 6 p (by rw [st_6, h0]; rfl) (by decide) hp, fun h => absurd h (by simp)⟩
 | true =>
  have hp0 := in_lt s p 97 112 h0 (by omega)
  have e6 : PS s 6 p = PS s 7 (p + 1) := PS_go s 6 7 p (by rw [st_6, h0]; rfl) (by decide) hp0
  have h97 : 97 <= pk s p := by unfold inB at h0; simp at h0; omega
  simp only [Bool.true_eq_false, if_false]
  by_cases h1 : pk s (p + 1) = 62
  ·have hp1 := eq_lt s (p + 1) 62 h1 (by omega)
   have e7 : PS s 7 (p + 1) = PS s 8 (p + 2) := PS_go s 7 8 (p + 1) (by rw [st_7, if_pos h1]) (by decide) hp1
   rw [if_neg (by simp [h1])]
   obtain ⟨i1, i2, i3, i4, i5, i6, i7⟩ := path_ok s 300 (p + 2) (by omega) (by omega)
   generalize pathL s 300 (p + 2) = R at *
   obtain ⟨items, q⟩ := R
   simp only at *
   by_cases h2 : items = []
   ·have h2' : items.length = 0 := by rw [h2]; rfl
    rw [if_pos h2']
    have := i6 h2
    subst this
    exact ⟨fun _ => by rw [e6, e7]; exact z2a s 8 (p + 2) (by rw [st_8, i5]; rfl) (by decide) (by omega), fun h => absurd h (by simp)⟩
   ·have h2' : ¬ items.length = 0 := by simpa using h2
    rw [if_neg h2']
    obtain ⟨i7a, b, hb, hB⟩ := i7 h2
    have e8 := hB 8 (.inl rfl)
    have hstart : (sl s p q).getD 0 0 = bt s p := sl_get0 s p q (by omega) i2
    by_cases h3 : pk s q = 33
    ·rw [if_neg (by simp [h3])]
     have hq := eq_lt s q 33 h3 (by omega)
     have e9 : PS s b q = PS s 11 (q + 1) := by
      rcases hb with ⟨rfl, hsg⟩ | rfl
      ·exact PS_go s 9 11 q (by rw [st_9, i5, hsg, h3]; rfl) (by decide) hq
      ·exact PS_go s 10 11 q (by rw [st_10, i5, h3]; rfl) (by decide) hq
     obtain ⟨j1, j2, j3, j4⟩ := flank_ok s 300 (q + 1) (by omega) (by omega)
     generalize z0y s 300 (q + 1) = R at *
     obtain ⟨fl, q2, ok⟩ := R
     simp only at *
     cases ok with
     | false =>
      simp only [Bool.false_and]
      exact ⟨fun _ => by rw [e6, e7, e8, e9]; exact j3 rfl 11 (.inl rfl), fun h => absurd h (by simp)⟩
     | true =>
      obtain ⟨k1, k2, k3, k4, k5⟩ := j4 rfl
      simp only [Bool.true_and, decide_eq_false_iff_not, decide_eq_true_eq]
      by_cases h4 : fl = []
      ·have := k4 h4
       subst this
       refine ⟨fun _ => by rw [e6, e7, e8, e9]; exact z2a s 11 (q + 1) (by rw [st_11, k3]; rfl) (by decide) j2, fun h => absurd h (by rw [h4]; simp)⟩
      ·obtain ⟨k5a, k5b⟩ := k5 h4
       refine ⟨fun h => absurd (List.length_pos_iff.2 h4) h, fun _ => ⟨by omega, j2, fun i a c => ?_, ?_, h2, h97, 13, ⟨.inr (.inr rfl), ?_⟩, by rw [e6, e7, e8, e9]; exact k5b 11 (.inl rfl)⟩⟩
       ·rcases Nat.lt_or_ge q i with h | h
        ·have := isLS_ne (k1 i (by omega) c); omega
        ·rcases Nat.lt_or_ge i q with h' | h'
         ·rcases Nat.lt_or_ge i (p + 2) with h'' | h''
          ·rcases Nat.lt_or_ge p i with h3' | h3'
           ·obtain rfl : i = p + 1 := by omega
            omega
           ·obtain rfl : i = p := by omega
            unfold inB at h0; simp at h0; omega
          ·have := isLS_ne (i3 i (by omega) h'); omega
         ·obtain rfl : i = q := by omega
          omega
       ·unfold z31
        rw [sl_get0 s p q2 (by omega) j2, sl_drop, z3e s 33 (p + 2) q q2 (by omega) (by omega) j2 (fun i a c => bt_ne (by have := isLS_ne (i3 i a c); simp; omega)) (bt_eq (by rw [h3]; rfl)),
         z3y s 33 (q + 1) q2 (by omega) j2 (fun i a c => bt_ne (by have := isLS_ne (k1 i a c); simp; omega))]
        simp only [List.getD_cons_zero, List.drop_succ_cons, List.drop_zero, marksF, i4, k2, List.nil_append]
        rfl
       ·rw [st_13, k3]; rfl
    ·rw [if_pos (by simp [h3])]
     refine ⟨fun h => absurd h (by simp), fun _ => ⟨by omega, i2, fun i a c => ?_, ?_, h2, h97, b, ⟨?_, ?_⟩, by rw [e6, e7, e8]⟩⟩
     ·rcases Nat.lt_or_ge i (p + 2) with h'' | h''
      ·rcases Nat.lt_or_ge p i with h3' | h3'
       ·obtain rfl : i = p + 1 := by omega
        omega
       ·obtain rfl : i = p := by omega
        unfold inB at h0; simp at h0; omega
      ·have := isLS_ne (i3 i (by omega) c); omega
     ·unfold z31
      rw [hstart, sl_drop, z3y s 33 (p + 2) q (by omega) i2 (fun i a c => bt_ne (by have := isLS_ne (i3 i a c); simp; omega))]
      simp only [List.getD_cons_zero, List.drop_succ_cons, List.drop_zero, marksF, i4, List.nil_append]
      rfl
     ·rcases hb with ⟨rfl, -⟩ | rfl
      ·exact .inl rfl
      ·exact .inr (.inl rfl)
     ·rcases hb with ⟨rfl, hsg⟩ | rfl
      ·rw [st_9, i5, hsg, if_neg (by simp), if_neg (by simp), if_neg h3]
      ·rw [st_10, i5, if_neg (by simp), if_neg h3]
  ·rw [if_pos (by simp [h1])]
   exact ⟨fun _ => by rw [e6]; exact z2a s 7 (p + 1) (by rw [st_7, if_neg h1]) (by decide) (by omega), fun h => absurd h (by simp)⟩
end Go.Proofs.YtkbpocecbcaiiaaGreatDoor
