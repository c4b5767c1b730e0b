/-
  ObsFloats: called with any arguments, in whatever memory, the law answers true and leaves its arguments and all that lay in memory as they were.
  Conditions: the listed package variables of the library and of package api read as start-up lays them (the card ties that to the program's text).
-/
import Derived.Test.YtdmgaaaomleojaaGreatDoorO15
import Derived.SevenTiedAt
import Derived.Lay
namespace Go.Proofs.YtdmgaaaomleojaaGreatDoor
open Go Go.ChangeShapes Go.WideShapes Go.ChangeAt Go.WideMaps Go.WideElems Go.RowKit
open Go.ChangeMaps (setBlock shut_map_nil open_string shut_string keptBut_setBlock frozen?_setBlock heap_setBlock_same)

theorem obsFloats_door (os : Go.Os) (args : Array Value) : laidMetH Tryz.prog Rows.obsFloatsRow.laid ((World.laidAll Tryz.prog os Rows.obsFloatsRow.laid).forCall (fun _ _ => 0) ⟨#[], args, []⟩).memory := by
  rw [MakeChecks.laidMetH_plain _ _ _ (by kernel_rfl)]
  exact laidMet_laidAll _ (by kernel_rfl) (by kernel_rfl)
theorem obsFloats_shaped (os : Go.Os) : World.Shaped Tryz.prog (World.laidAll Tryz.prog os Rows.obsFloatsRow.laid) :=
  World.shaped_of_ZipB (by kernel_rfl) (by kernel_rfl)

set_option maxRecDepth 100000 in
theorem obsFloats_lifted (os : Go.Os) (started : os.Started) (H : Type) (enc : TypeId × Value → H) :
    ReturnsInHanded {} Tryz.checked os 3 .any (fun w args => (Rows.obsFloatsSpec.pre enc Tryz.prog Tryz.f3 [] false w args ∧ laidMetH Tryz.prog Rows.obsFloatsRow.laid w) ∧ sizedMet enc Tryz.prog Tryz.f3 (OpenSpec.ofChange Rows.obsFloatsSpec) false w args)
      (Rows.obsFloatsSpec.post enc Tryz.prog Tryz.f3 false true false false) := by
  refine returnsInHanded_of_change_and (C := Tryz.checked) (X := fun w _ => laidMetH Tryz.prog Rows.obsFloatsRow.laid w) (fun _ _ _ hh h => h.of_heap hh) own started (by kernel_rfl) Tryz.func3
    (ChangeSpec.witness_shaped (enc := enc) (C := Tryz.checked) (os := os) (X := fun w _ => laidMetH Tryz.prog Rows.obsFloatsRow.laid w) false (World.laidAll Tryz.prog os Rows.obsFloatsRow.laid) #[.int .u64 0, .int .u64 0] 8 (World.laidAll_os _ _ _) (obsFloats_shaped os) (by kernel_rfl) (by kernel_rfl) (by kernel_rfl) (obsFloats_door os _)) ?_
  intro W base args ds gs before hval0 hW _ _ hL _
  have hval : ∀ (j : Nat) t v, Tryz.f3.params[j]? = some t → args[j]? = some v → Value.okWide Tryz.prog W .any base t v := hval0
  have hW' := hW
  obtain ⟨p, q, hA0, hV, rfl, hfz, hnd⟩ := hW
  have hA : DataW.TrodAll enc Tryz.prog W 0 (fun _ => true) true Tryz.f3.params.toList args.toList ds p := hA0
  rw [Tryz.params3] at hA hval
  obtain ⟨v0, v1, d0, d1, p0, p1, rfl, rfl, rfl, h0, h1⟩ := trodAll_two hA
  obtain ⟨rfl, rfl⟩ := trodVars_none hV
  obtain ⟨x0, rfl, rfl, rfl, wx0⟩ := open_int Tryz.underlying22 (hval 0 22 v0 rfl rfl) h0
  obtain ⟨x0, rfl, lx0⟩ := nat_of_u64 wx0
  obtain ⟨x1, rfl, rfl, rfl, wx1⟩ := open_int Tryz.underlying22 (hval 1 22 v1 rfl rfl) h1
  obtain ⟨x1, rfl, lx1⟩ := nat_of_u64 wx1
  clear hA0 hval0
  simp only [List.append_nil] at hW'
  rw [MakeChecks.laidMetH_plain _ _ _ (by kernel_rfl)] at hL
  have ht := obsFloats_facts hL
  have e1 : Rows.obsFloatsSpec.fn H ([.lit (.int .u64 (x0 : Int)), .lit (.int .u64 (x1 : Int))] ++ []) = { results := [.lit (.bool true)], args := [.lit (.int .u64 (x0 : Int)), .lit (.int .u64 (x1 : Int))] } := by simp [Rows.obsFloatsSpec]
  refine (obsFloats_any x0 x1 lx0 lx1 W ht).mono fun e W' ⟨he, hb⟩ => ?_
  subst he
  refine ⟨_, rfl, _, _, _, [], [], [], hW', ?_, ?_, ?_, hb.frame _, fun h => by cases h⟩
  · rw [e1]; exact trodAll_mk1 (shut_bool Tryz.underlying4 true)
  · rw [e1]; exact trodAll_mk2 (shut_int Tryz.underlying22 wx0) (shut_int Tryz.underlying22 wx1)
  · rw [e1]; rfl

theorem obsFloats_closed : joinedFacts Tryz.prog 3 Tryz.f3 Rows.obsFloatsSpec Rows.obsFloatsRow = true := by kernel_rfl
theorem obsFloats_named : Tryz.prog.funcNamed "gristmill/gristmilllaw11.ObsFloats" = some 3 := by kernel_rfl
theorem obsFloats_inst : Tryz.f3.isInstance Tryz.prog Rows.obsFloatsRow.origin Rows.obsFloatsRow.targs := of_decide_eq_true (by kernel_rfl)

theorem obsFloats_holds : Rows.ObsFloatsSaid :=
  OpenClaim.holds_of_wide 3 Tryz.f3 rfl rfl rfl rfl rfl rfl rfl ⟨rfl, rfl, rfl, rfl, rfl⟩ rfl rfl rfl rfl rfl obsFloats_named Tryz.func3 obsFloats_closed
    obsFloats_inst (by unfold Func.isWrapper; first | (rw [if_pos (by decide +kernel)]; kernel_rfl) | (rw [if_neg (by decide +kernel)]; exact ⟨rfl, rfl⟩))
    (fun os started H enc _ => obsFloats_lifted os started H enc)

theorem obsFloats_card : Rows.ObsFloatsCardSaid :=
  Claim7.holds_tied_plain_at .later [] Rows.obsFloatsCard.laidKinds true Rows.obsFloatsCard.stood.harness true
    obsFloats_holds (fun _ h => by cases h) (by kernel_rfl) (fun _ h => by cases h) obsFloats_row_tie rfl ⟨rfl, rfl⟩ (by kernel_rfl) rfl
    (fun f fn hf hfn => by
      obtain rfl : f = 3 := Option.some.inj (obsFloats_named.symm.trans hf) |>.symm
      obtain rfl : fn = Tryz.f3 := (Option.some.inj (Tryz.func3.symm.trans hfn)).symm
      exact ⟨by kernel_rfl, fun j t ht => by
        rw [Tryz.params3] at ht
        have hm : t ∈ [22, 22] := by simpa using Array.mem_of_getElem? ht
        have hall : ([22, 22].all fun u => !Tryz.prog.wantsStandIn u) = true := by kernel_rfl
        exact (show Tryz.prog.wantsStandIn t = false by simpa using List.all_eq_true.1 hall t hm)⟩)
    (by kernel_rfl)
#print axioms obsFloats_card
end Go.Proofs.YtdmgaaaomleojaaGreatDoor
