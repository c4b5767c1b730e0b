/- SynDeep: what the told calls share. No conditions. -/
import Derived.Test.YtkbdnegafidbcaaGreatDoorSynDeepD
namespace Go.Proofs.YtkbdnegafidbcaaGreatDoor
open Go.Ex
theorem synDeep_en8 : Enters Tryz.prog 8 := ⟨_, Tryz.func8, by kernel_rfl, by kernel_rfl⟩
theorem synDeep_en9 : Enters Tryz.prog 9 := ⟨_, Tryz.func9, by kernel_rfl, by kernel_rfl⟩
theorem synDeep_en10 : Enters Tryz.prog 10 := ⟨_, Tryz.func10, by kernel_rfl, by kernel_rfl⟩
theorem synDeep_en19 : Enters Tryz.prog 19 := ⟨_, Tryz.func19, by kernel_rfl, by kernel_rfl⟩
theorem synDeep_en41 : Enters Tryz.prog 41 := ⟨_, Tryz.func41, by kernel_rfl, by kernel_rfl⟩
theorem synDeep_en42 : Enters Tryz.prog 42 := ⟨_, Tryz.func42, by kernel_rfl, by kernel_rfl⟩
theorem synDeep_en51 : Enters Tryz.prog 51 := ⟨_, Tryz.func51, by kernel_rfl, by kernel_rfl⟩
theorem synDeep_en57 : Enters Tryz.prog 57 := ⟨_, Tryz.func57, by kernel_rfl, by kernel_rfl⟩
theorem synDeep_en61 : Enters Tryz.prog 61 := ⟨_, Tryz.func61, by kernel_rfl, by kernel_rfl⟩
theorem synDeep_en65 : Enters Tryz.prog 65 := ⟨_, Tryz.func65, by kernel_rfl, by kernel_rfl⟩
theorem synDeep_en69 : Enters Tryz.prog 69 := ⟨_, Tryz.func69, by kernel_rfl, by kernel_rfl⟩
theorem synDeep_en89 : Enters Tryz.prog 89 := ⟨_, Tryz.func89, by kernel_rfl, by kernel_rfl⟩
theorem synDeep_nil {p : Ent → Prop} : ∀ e ∈ ([] : List Ent), p e := fun _ h => absurd h (by simp)
theorem synDeep_cons {p : Ent → Prop} {a : Ent} {l : List Ent} (h : p a) (hl : ∀ e ∈ l, p e) : ∀ e ∈ a :: l, p e := fun e he => by
  rcases List.mem_cons.1 he with rfl | he
  · exact h
  · exact hl e he
noncomputable def synDeep_gl0 : List (Nat × Row) := [(20, ⟨0, false, 48, [[.str 1 43, .int .i64 (2), .bool false, .str 1 45, .int .i64 (2), .bool false, .str 1 42, .int .i64 (2), .bool false, .str 3 7760228, .int .i64 (2), .bool false, .str 3 6582125, .int .i64 (2), .bool false, .str 1 60, .int .i64 (2), .bool false, .str 1 61, .int .i64 (2), .bool false, .str 2 11110, .int .i64 (2), .bool true, .str 2 11622, .int .i64 (2), .bool true, .str 2 10854, .int .i64 (2), .bool true, .str 2 12134, .int .i64 (2), .bool true, .str 2 15462, .int .i64 (2), .bool false, .str 2 15718, .int .i64 (2), .bool false, .str 5 499850898534, .int .i64 (1), .bool true, .str 5 435610937463, .int .i64 (1), .bool false, .str 3 7431539, .int .i64 (2), .bool false]], 1099511627776⟩)]
noncomputable def synDeep_gl1 : List (Nat × Row) := [(0, ⟨0, false, 1, [[.ifc 275 (.ptr 1029 0)]], 1099511627776⟩), (1, ⟨0, false, 1, [[.ifc 275 (.ptr 1034 0)]], 1099511627776⟩), (2, ⟨0, false, 1, [[.ifc 275 (.ptr 1030 0)]], 1099511627776⟩), (3, ⟨0, false, 1, [[.ifc 275 (.ptr 1033 0)]], 1099511627776⟩), (4, ⟨0, false, 1, [[.ifc 275 (.ptr 1031 0)]], 1099511627776⟩), (6, ⟨0, false, 1, [[.ifc 275 (.ptr 1032 0)]], 1099511627776⟩), (7, ⟨0, false, 1, [[.ifc 275 (.ptr 1026 0)]], 1099511627776⟩), (8, ⟨0, false, 1, [[.ifc 275 (.ptr 1027 0)]], 1099511627776⟩), (9, ⟨0, false, 1, [[.ifc 275 (.ptr 1028 0)]], 1099511627776⟩), (10, ⟨0, false, 1, [[.ifc 275 (.ptr 1035 0)]], 1099511627776⟩), (11, ⟨0, false, 1, [[.ifc 275 (.ptr 1036 0)]], 1099511627776⟩), (12, ⟨0, false, 1, [[.ifc 275 (.ptr 1037 0)]], 1099511627776⟩), (13, ⟨0, false, 1, [[.ifc 275 (.ptr 1038 0)]], 1099511627776⟩), (14, ⟨0, false, 1, [[.ifc 275 (.ptr 1039 0)]], 1099511627776⟩), (15, ⟨0, false, 1, [[.ifc 275 (.ptr 1040 0)]], 1099511627776⟩), (16, ⟨0, false, 1, [[.ifc 275 (.ptr 1041 0)]], 1099511627776⟩), (17, ⟨0, false, 1, [[.ifc 275 (.ptr 1042 0)]], 1099511627776⟩), (18, ⟨0, false, 1, [[.ifc 275 (.ptr 1043 0)]], 1099511627776⟩), (20, ⟨0, false, 48, [[.str 1 43, .int .i64 (2), .bool false, .str 1 45, .int .i64 (2), .bool false, .str 1 42, .int .i64 (2), .bool false, .str 3 7760228, .int .i64 (2), .bool false, .str 3 6582125, .int .i64 (2), .bool false, .str 1 60, .int .i64 (2), .bool false, .str 1 61, .int .i64 (2), .bool false, .str 2 11110, .int .i64 (2), .bool true, .str 2 11622, .int .i64 (2), .bool true, .str 2 10854, .int .i64 (2), .bool true, .str 2 12134, .int .i64 (2), .bool true, .str 2 15462, .int .i64 (2), .bool false, .str 2 15718, .int .i64 (2), .bool false, .str 5 499850898534, .int .i64 (1), .bool true, .str 5 435610937463, .int .i64 (1), .bool false, .str 3 7431539, .int .i64 (2), .bool false]], 1099511627776⟩), (1026, ⟨0, true, 1, [[.str 17 41318316918226012169249420858342428931177]], 0⟩), (1027, ⟨0, true, 1, [[.str 19 2260923306255919057704942907796020278137745262]], 0⟩), (1028, ⟨0, true, 1, [[.str 25 636523400291050302259756776451038897057077032394821863350369]], 0⟩), (1029, ⟨0, true, 1, [[.str 8 8750038247350955892]], 0⟩), (1030, ⟨0, true, 1, [[.str 8 8098990985611014004]], 0⟩)]
noncomputable def synDeep_gl2 : List (Nat × Row) := [(0, ⟨0, false, 1, [[.ifc 275 (.ptr 1029 0)]], 1099511627776⟩), (1, ⟨0, false, 1, [[.ifc 275 (.ptr 1034 0)]], 1099511627776⟩), (2, ⟨0, false, 1, [[.ifc 275 (.ptr 1030 0)]], 1099511627776⟩), (3, ⟨0, false, 1, [[.ifc 275 (.ptr 1033 0)]], 1099511627776⟩), (4, ⟨0, false, 1, [[.ifc 275 (.ptr 1031 0)]], 1099511627776⟩), (6, ⟨0, false, 1, [[.ifc 275 (.ptr 1032 0)]], 1099511627776⟩), (7, ⟨0, false, 1, [[.ifc 275 (.ptr 1026 0)]], 1099511627776⟩), (8, ⟨0, false, 1, [[.ifc 275 (.ptr 1027 0)]], 1099511627776⟩), (9, ⟨0, false, 1, [[.ifc 275 (.ptr 1028 0)]], 1099511627776⟩), (10, ⟨0, false, 1, [[.ifc 275 (.ptr 1035 0)]], 1099511627776⟩), (11, ⟨0, false, 1, [[.ifc 275 (.ptr 1036 0)]], 1099511627776⟩), (12, ⟨0, false, 1, [[.ifc 275 (.ptr 1037 0)]], 1099511627776⟩), (13, ⟨0, false, 1, [[.ifc 275 (.ptr 1038 0)]], 1099511627776⟩), (14, ⟨0, false, 1, [[.ifc 275 (.ptr 1039 0)]], 1099511627776⟩), (15, ⟨0, false, 1, [[.ifc 275 (.ptr 1040 0)]], 1099511627776⟩), (16, ⟨0, false, 1, [[.ifc 275 (.ptr 1041 0)]], 1099511627776⟩), (17, ⟨0, false, 1, [[.ifc 275 (.ptr 1042 0)]], 1099511627776⟩), (18, ⟨0, false, 1, [[.ifc 275 (.ptr 1043 0)]], 1099511627776⟩), (1026, ⟨0, true, 1, [[.str 17 41318316918226012169249420858342428931177]], 0⟩), (1027, ⟨0, true, 1, [[.str 19 2260923306255919057704942907796020278137745262]], 0⟩), (1028, ⟨0, true, 1, [[.str 25 636523400291050302259756776451038897057077032394821863350369]], 0⟩), (1029, ⟨0, true, 1, [[.str 8 8750038247350955892]], 0⟩), (1030, ⟨0, true, 1, [[.str 8 8098990985611014004]], 0⟩)]
theorem synDeep_told {sy : Nat → Value} {P : Program} {ov : OV} (ho : OvOk sy P ov) {mk : Nat → Nat} {n f : Nat} {es : List Ent} (hE : Enters P f) (hr : ∀ e ∈ es, ∃ ov', OvOk sy P ov' ∧ entRun P ov' mk n f e = true) : OvOk sy P (T.set ov f (hSub es)) := by
  have key : ∀ e ∈ es, ∃ ov' t', OvOk sy P ov' ∧ topF P ov' mk n f e.args e.before.st = some (e.ans, t') ∧ SubSt e.after.st t' := by
    intro e he
    obtain ⟨ov', k, q⟩ := hr e he
    obtain ⟨⟨v, t'⟩, h1, h2⟩ := isO_some q
    rw [and_true'] at h2
    have := eqArg_eq h2.1
    simp only at this
    exact ⟨ov', t', k, by rw [h1, this], subB_sub h2.2⟩
  refine ho.set (fun ρ args s s' v w vs hS hl hfr hh => ?_) hE fun args s v s' hh => ?_
  · obtain ⟨e, he, rfl, hsub, hres⟩ := hSub_some hh
    obtain ⟨ov', t', ho', h1, h2⟩ := key e he
    simp only [Prod.mk.injEq] at hres
    obtain ⟨rfl, rfl⟩ := hres
    refine (topF_ok ho' h1 (hsub.sat hS) hl (by rw [hsub.next, ← h2.next]; exact hfr)).mono fun x w' ⟨ρ', u, g1, g2, g3⟩ => ⟨ρ', u, g1, (hsub.out h2 g2).setDs_r _, g3⟩
  · obtain ⟨e, he, rfl, hsub, hres⟩ := hSub_some hh
    obtain ⟨ov', t', ho', h1, h2⟩ := key e he
    simp only [Prod.mk.injEq] at hres
    obtain ⟨rfl, rfl⟩ := hres
    refine ⟨?_, rfl⟩
    show s.next ≤ e.after.st.next
    rw [h2.next, ← hsub.next]
    exact (callNF_grows (runF_ok (sy := sy) ho' n).2 _ _ _ _ _ h1).next
end Go.Proofs.YtkbdnegafidbcaaGreatDoor
