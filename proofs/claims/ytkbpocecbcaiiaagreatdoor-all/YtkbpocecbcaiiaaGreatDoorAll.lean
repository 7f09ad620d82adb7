import Derived.Test.YtkbpocecbcaiiaaGreatDoorCards
import Derived.Test.YtkbpocecbcaiiaaGreatDoorTie
import Derived.Test.YtkbpocecbcaiiaaGreatDoorJ50
import Derived.Deep.Slices
import Derived.ProofKit
import Derived.OpenShut
import Derived.ShutString
import Derived.LaidMore
namespace Go.Proofs.YtkbpocecbcaiiaaGreatDoor.all
open Go.ChangeShapes Go.WideShapes Go.ChangeAt Go.RowKit
open Go.ChangeMaps (open_string shut_string)
theorem own : ownKnob Tryz.prog.godebug = none := by kernel_rfl
theorem laidOut : laidOutB Tryz.prog = true := by kernel_rfl
theorem cellsS : Tryz.prog.cellsOf 9 = 1 := by kernel_rfl
theorem door_met (os : Os) (args : Array Value) : laidMetH Tryz.prog Rows.allRow.laid ((World.doorLaid Tryz.prog 24 os).forCall (fun _ _ => 0) ⟨#[], args, []⟩).memory :=
 laidMetH_of_parts3 (fuel := 8) (laidMet_of_run' 8 (by kernel_rfl) (by kernel_rfl)) (by kernel_rfl) (by kernel_rfl)
set_option maxRecDepth 100000 in
theorem lifted (os : Os) (started : os.Started) (H : Type) (enc : TypeId × Value -> H) :
  ReturnsInHanded {} Tryz.checked os 8 .any (fun w args => (Rows.allSpec.pre enc Tryz.prog Tryz.f8 [] false w args /\ laidMetH Tryz.prog Rows.allRow.laid w) /\ sizedMet enc Tryz.prog Tryz.f8 (OpenSpec.ofChange Rows.allSpec) false w args)
   (Rows.allSpec.post enc Tryz.prog Tryz.f8 false true false false) := by
 refine returnsInHanded_of_change_and (C := Tryz.checked) (X := fun w _ => laidMetH Tryz.prog Rows.allRow.laid w) (fun _ _ _ hh h => h.of_heap hh) own started (by kernel_rfl) Tryz.func8
  (ChangeSpec.witness_shaped (enc := enc) (C := Tryz.checked) (os := os) (X := fun w _ => laidMetH Tryz.prog Rows.allRow.laid w) false (World.doorLaid Tryz.prog 24 os) #[.slice none 0 0] 8 rfl (World.shaped_of_RefB (by kernel_rfl) (by kernel_rfl)) (by kernel_rfl) (by kernel_rfl) (by kernel_rfl) (door_met os _)) ?_
 intro W base args ds gs before hval0 hW _ hwt _ _
 have hval : ∀ (j : Nat) t v, Tryz.f8.params[j]? = some t -> args[j]? = some v -> Value.okWide Tryz.prog W .any base t v := hval0
 have hW' := hW
 obtain ⟨p, q, hA0, hV, rfl, hfz, hnd⟩ := hW
 have hA : DataW.TrodAll enc Tryz.prog W 0 (fun _ => true) true Tryz.f8.params.toList args.toList ds p := hA0
 rw [Tryz.params8] at hA hval
 obtain ⟨v0, vs0, d0, ds0, p0, q0, hargs0, rfl, rfl, h0, r0⟩ := trodAll_cons hA
 obtain ⟨rfl, rfl, rfl⟩ := trodAll_nil r0
 obtain rfl : args = #[v0] := by cases args; simp_all
 obtain ⟨rfl, rfl⟩ := trodVars_none hV
 obtain ⟨ao, len, cap, rfl⟩ := okWide_slice Tryz.underlying26 (hval 0 26 v0 rfl rfl)
 have h0k := h0
 obtain ⟨fuel, hf⟩ := h0
 clear hA0 hval0
 simp only [List.append_nil] at hW'
 have hlt : ∀ x ∈ p0, x.block < W.heap.size := fun x hx => by simpa using hW'.lt x hx
 have hargs : ∀ (W' : World), Below W.heap.size W W' -> DataW.Trod enc Tryz.prog W' 0 (fun b => decide (b < W.heap.size)) true 26 (.slice ao len cap) d0 p0 :=
  fun W' hn => Below.trod laidOut (by kernel_rfl) (of_decide_eq_true (by kernel_rfl)) h0k hn hlt
 have hfr : ∃ z, OpsIn W ao len z := by
  rcases Go.Deep.open_slice Tryz.underlying26 hf with ⟨hcs, hx⟩ | ⟨a, len', cap', m, n, Dd, Pl, hcs, _, hl, hm, hmm, hx, hel⟩
  ·simp [Value.cells] at hcs
   obtain ⟨rfl, rfl, rfl⟩ := hcs
   exact ⟨fun _ => ⟨0, 0, ByteArray.empty, ByteArray.empty⟩, by omega, Or.inl rfl⟩
  ·simp [Value.cells] at hcs
   obtain ⟨rfl, rfl, rfl⟩ := hcs
   simp only [if_true] at hmm
   subst hmm
   have hd : d0 = _ := congrArg Prod.fst hx
   have hlen48 : len * 48 <= 140737488355328 := by
    rw [hd] at hwt
    have hw1 : (DataW.weightsEach Tryz.prog [26] [DataW.slice ((List.range len).map Dd) ((List.range (m - len)).map fun j => Dd (len + j))]).all (· <= reachBytes) = true := hwt
    unfold DataW.weightsEach DataW.weights at hw1
    rw [Tryz.underlying26] at hw1
    simp only [List.cons_append, List.all_cons, Bool.and_eq_true, decide_eq_true_eq] at hw1
    have h1 := hw1.1
    simp only [List.length_map, List.length_range] at h1
    have h48 : Tryz.prog.bytesOf 34 = 48 := by kernel_rfl
    rw [h48] at h1
    unfold reachBytes at h1
    omega
   have each : ∀ i, i < m -> ∃ q : OpD, W.cell? (a.add (i * 4)) = some (.int .i64 q.k) /\ W.cell? (a.add (i * 4 + 1)) = some (.int .i64 q.b) /\ W.cell? (a.add (i * 4 + 2)) = some (.string q.s) /\ W.cell? (a.add (i * 4 + 3)) = some (.string q.t) /\ -9223372036854775808 <= q.b /\ q.b < 9223372036854775808 := by
    intro i hi
    obtain ⟨cs', h1, h2⟩ := hel i hi
    have ce : Tryz.prog.cellsOf 34 = 4 := by kernel_rfl
    have ci : Tryz.prog.cellsOf 3 = 1 := by kernel_rfl
    rw [ce] at h1
    obtain ⟨_, hlen, hcell⟩ := World.cells?_some h1
    obtain ⟨xs, k, hk, hxy, _, hxl, hfl⟩ := DataW.trod_struct Tryz.underlying34 h2
    match xs, hxl, cs', hlen with
    | [y0, y1, y2, y3], _, [v0, v1, v2, v3], _ =>
     have g0 := hfl 0 _ rfl
     have g1 := hfl 1 _ rfl
     have g2 := hfl 2 _ rfl
     have g3 := hfl 3 _ rfl
     simp [ci, cellsS] at g0 g1 g2 g3
     obtain ⟨z0, e0, -, -⟩ := DataW.trod_int Tryz.underlying3 g0
     obtain ⟨z1, e1, -, hw1⟩ := DataW.trod_int Tryz.underlying3 g1
     obtain ⟨z2, e2, -, -⟩ := DataW.trod_string Tryz.underlying9 g2
     obtain ⟨z3, e3, -, -⟩ := DataW.trod_string Tryz.underlying9 g3
     simp only [List.cons.injEq, and_true] at e0 e1 e2 e3
     subst e0 e1 e2 e3
     have c0 := hcell 0 (by omega)
     have c1 := hcell 1 (by omega)
     have c2 := hcell 2 (by omega)
     have c3 := hcell 3 (by omega)
     rw [Go.Deep.add_add] at c0 c1 c2 c3
     have hb : IntKind.i64.min <= z1 /\ z1 <= IntKind.i64.max := by
      unfold Lit.wf at hw1
      simpa using hw1
     have m1 : IntKind.i64.min = -9223372036854775808 := by decide
     have m2 : IntKind.i64.max = 9223372036854775807 := by decide
     rw [m1, m2] at hb
     exact ⟨⟨z0, z1, z2, z3⟩, by simpa using c0, by simpa using c1, by simpa using c2, by simpa using c3, hb.1, by show z1 < _; omega⟩
   haveI : Inhabited OpD := ⟨⟨0, 0, ByteArray.empty, ByteArray.empty⟩⟩
   obtain ⟨q, hq⟩ := Go.Deep.choose_lt each
   refine ⟨q, hlen48, ?_⟩
   by_cases hl0 : len = 0
   ·exact Or.inl hl0
   ·obtain ⟨b, off, spot⟩ := a
    have hspot : spot = none := by simpa [Addr.add] using World.cell?_spot (hq 0 (by omega)).1
    subst hspot
    refine Or.inr ⟨b, off, rfl, fun j hj => ?_⟩
    have := hq j (by omega)
    simp only [add_plain] at this
    exact this
 obtain ⟨z, hfr⟩ := hfr
 refine (All_any ao len cap z W hfr).mono fun e W' ⟨he, hB⟩ => ?_
 subst he
 refine ⟨_, rfl, _, _, _, [], p0, [], hW', ?_, ?_, ?_, hB.frame _, fun h => by cases h⟩
 ·exact trodAll_mk1 (shut_bool Tryz.underlying4 _)
 ·exact trodAll_mk1 (hargs _ hB)
 ·exact rfl
theorem over : Rows.AllSaid :=
 OpenClaim.holds_of_wide 8 Tryz.f8 rfl rfl rfl rfl rfl rfl rfl ⟨rfl, rfl, rfl, rfl, rfl⟩ rfl rfl rfl rfl rfl (by kernel_rfl) Tryz.func8 (by kernel_rfl)
  (of_decide_eq_true (by kernel_rfl)) (by unfold Func.isWrapper; first | (rw [if_pos (by decide +kernel)]; kernel_rfl) | (rw [if_neg (by decide +kernel)]; exact ⟨rfl, rfl⟩))
  (fun os started H enc _ => lifted os started H enc)
end Go.Proofs.YtkbpocecbcaiiaaGreatDoor.all
namespace Go.Proofs.YtkbpocecbcaiiaaGreatDoor
open Go
theorem all_holds : Rows.AllCardSaid :=
 Claim7.holds_tied_plain_at .later [] [.data, .data, .data] true Rows.allCard.stood.harness false
  all.over (fun _ h => by cases h) (by kernel_rfl) (fun _ h => by cases h) all_row_tie rfl ⟨rfl, rfl⟩ (by kernel_rfl) rfl
  (fun f fn hf hfn => by
   obtain rfl : f = 8 := Option.some.inj ((show Tryz.prog.funcNamed "rails/railslaw.All" = some 8 by kernel_rfl).symm.trans hf) |>.symm
   obtain rfl : fn = Tryz.f8 := (Option.some.inj (Tryz.func8.symm.trans hfn)).symm
   exact ⟨by kernel_rfl, fun j t ht => by
    rw [Tryz.params8] at ht
    have hm : t ∈ [26] := by simpa using Array.mem_of_getElem? ht
    have hall : ([26].all fun u => !Tryz.prog.wantsStandIn u) = true := by kernel_rfl
    exact (show Tryz.prog.wantsStandIn t = false by simpa using List.all_eq_true.1 hall t hm)⟩)
  (by kernel_rfl)
#print axioms all_holds
end Go.Proofs.YtkbpocecbcaiiaaGreatDoor
