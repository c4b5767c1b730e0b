import Derived.Laws.Rows
import Derived.Test.YtdmgaaaomleojaaGreatDoorGrew
import Derived.Test.YtdmgaaaomleojaaGreatDoorO11
/- XRr.lean.tpl: what is asked of elder texts. Conditions: as each says. -/
namespace Go.Proofs.YtdmgaaaomleojaaGreatDoor
open Go.RowKit
theorem results_row_tmp {P : Program} {fn : Func} {p u : Tmp} {ty : TypeId} (h : fn.results = #[.cell p ty, .tmp u]) (tmps : Array Value) (w : World) (g : Nat) (t : TypeId) (cs : Array Value) (fr : Nat × Nat) (d : TypeDesc)
    (hp : tmps.getD p undef = .pointer (some ⟨g, 0, none⟩)) (hg : w.heap[g]? = some (.cells cs t fr))
    (hu : P.underlying ty = some d) (hd : (match d with | .struct _ | .array _ _ => true | _ => false) = true) (hi : (P.info? ty).map (·.size) = some cs.size) (v : Value) (hv : tmps.getD u undef = v) :
    (results fn tmps).run P w = .ok (.tuple #[.agg cs, v]) w := by
  have hp' : tmps[p]?.getD undef = .pointer (some ⟨g, 0, none⟩) := by simpa using hp
  have hv' : tmps[u]?.getD undef = v := by simpa using hv
  simp [results, h, hp', hv', asAddr, run_loadVar_row w g t ty cs fr d hg hu hd hi]
end Go.Proofs.YtdmgaaaomleojaaGreatDoor
/- Package obs: Parse of a text of one word. Conditions: as each says. -/
namespace Go.Proofs.YtdmgaaaomleojaaGreatDoor
open Go.RowKit

set_option maxRecDepth 100000 in
set_option maxHeartbeats 4000000 in
theorem Parse_one (s : ByteArray) (k n : Int) (w : World) (h1 : ∀ w1, Below w.heap.size w w1 → Calls Tryz.prog 10 #[.string s] w1 (Grew (leafV k n) w1))
    (h2 : ∀ w1, Below w.heap.size w w1 → Calls Tryz.prog 9 #[leafV k n] w1 (Grew (.bool true) w1)) :
    Calls Tryz.prog 6 #[.string s] w (Grew (.tuple #[leafV k n, .nilIface]) w) := by
  have H1 := Lib.hid h1
  have H2 := Lib.hid h2
  clear h1 h2
  unfold leafV at *
  go_enter Tryz.func6, Tryz.ntmps6
  go_wp2_with fail
  have hb1 := Below.alloc (Below.refl w.heap.size w) (Nat.le_refl _) (.cells #[.int .i64 0, .int .i64 0, .string ⟨#[]⟩, .slice none 0 0] 27)
  refine (H1.out _ hb1).mono ?_
  rintro e w1 ⟨rfl, hc1⟩
  obtain ⟨k1, k2, k3, k4⟩ := kept1 hc1
  clear hb1 hc1 k1 k2
  have HK3 := Lib.hid k3
  have HK4 := Lib.hid k4
  clear k3 k4
  go_wp2_with fail
  have hb2 : Below w.heap.size w (w1.alloc (.cells #[.int .i64 k, .int .i64 n, .string ⟨#[]⟩, .slice none 0 0] 27)) := HK4.out.alloc HK4.out.size _
  refine (H2.out _ hb2).mono ?_
  rintro e w2 ⟨rfl, hc2⟩
  obtain ⟨k1, k2, k3, k4⟩ := kept1 hc2
  have hlt : w.heap.size < w1.heap.size := by
    rcases Nat.lt_or_ge w.heap.size w1.heap.size with h | h
    · exact h
    · have := HK3.out; rw [Array.getElem?_eq_none h] at this; simp at this
  have hrow := (k4.block w.heap.size hlt).trans HK3.out
  have HB := Lib.hid (HK4.out.trans (k4.mono (Nat.le_of_lt hlt)))
  have d0 := k1 0
  have d1 := k1 1
  have d2 := k1 2
  have d3 := k1 3
  have z0 := cell_of_row w2 w.heap.size 0 _ _ _ hrow
  have z1 := cell_of_row w2 w.heap.size 1 _ _ _ hrow
  have z2 := cell_of_row w2 w.heap.size 2 _ _ _ hrow
  have z3 := cell_of_row w2 w.heap.size 3 _ _ _ hrow
  simp only [List.getElem?_toArray, List.getElem?_cons_zero, List.getElem?_cons_succ] at d0 d1 d2 d3 z0 z1 z2 z3
  have zf : ∀ i, w2.frozen? ⟨w.heap.size, i, none⟩ = false := fun i => by simp [World.frozen?, hrow]
  have HROW := Lib.hid hrow
  clear hb2 hc2 k1 k2 k3 k4 hrow
  go_wp2_with fail
  refine bodyPost_ret (results_row_tmp rfl _ _ w.heap.size 27 _ (0, 0) _ rfl (obs_row HROW.out rfl _ _ _ _) Tryz.underlying27 rfl (infoO _ _ _ _) .nilIface rfl) rfl ?_
  exact ⟨rfl, (((HB.out.setCell (Nat.le_refl _) _).setCell (Nat.le_refl _) _).setCell (Nat.le_refl _) _).setCell (Nat.le_refl _) _⟩
end Go.Proofs.YtdmgaaaomleojaaGreatDoor
