/- The laws' first(). No conditions. -/
import Derived.Test.YtoobcaegnokdpaaDoorGrew
import Derived.Test.YtoobcaegnokdpaaDoorLex3
import Derived.Test.YtoobcaegnokdpaaDoorNam2
namespace Go.Proofs.YtoobcaegnokdpaaDoor
open Go.RowKit

theorem words_ex : words [40, 97, 32, 98, 41] = [(⟨#[40]⟩, 0), (⟨#[97]⟩, 1), (⟨#[98]⟩, 3), (⟨#[41]⟩, 4)] := rfl
theorem a_is : (ByteArray.mk #[97]).toList = [97] := by rw [ByteArray.toList_eq]

set_option maxRecDepth 100000 in
set_option maxHeartbeats 1000000 in
theorem first_any (w : World) : Calls Tryd.prog 8 #[] w (Grew (.bool true) w) := by
  have H := Lib.hid (words_any ⟨#[40, 97, 32, 98, 41]⟩ (by decide) w)
  go_enter Tryd.func8, Tryd.ntmps8
  go_wp2_with fail
  refine H.out.mono ?_
  rintro e w1 ⟨ao, cap, rfl, hw, hb⟩
  rw [show words (ByteArray.mk #[40, 97, 32, 98, 41]).data.toList = words [40, 97, 32, 98, 41] from rfl, words_ex] at hw ⊢
  obtain ⟨b, rfl, hb1, hb2, h1, _⟩ := hw 1 (by decide)
  obtain ⟨b', hbb, _, _, _, h2⟩ := hw 3 (by decide)
  injection hbb with hbb
  injection hbb with hbb
  subst hbb
  have HB := Lib.hid hb
  clear hw hb
  simp only [List.length_cons, List.length_nil, List.getElem_cons_succ, List.getElem_cons_zero, Nat.reduceAdd, Nat.reduceMul] at h1 h2 ⊢
  have ha := a_is
  go_wp2_with fail
  go_ret
  exact ⟨rfl, HB.out⟩
end Go.Proofs.YtoobcaegnokdpaaDoor
