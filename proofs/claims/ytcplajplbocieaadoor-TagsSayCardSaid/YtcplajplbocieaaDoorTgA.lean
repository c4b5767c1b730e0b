/- Tags: the chapter's example. Conditions: the listed table. -/
import Derived.Test.YtcplajplbocieaaDoorTg6
namespace Go.Proofs.YtcplajplbocieaaDoor
open Go.RowKit Go.Sort Go.Lib

theorem text_a2 : textT ⟨4, ⟨#[]⟩, 2⟩ = ⟨#[65, 47, 50]⟩ := by
  have e : Lib.itoa 2 = [50] := by
    rw [show (2 : Int) = ((2 : Nat) : Int) from rfl, Lib.itoa_nonneg, Lib.decDigits_one (by omega)]; rfl
  unfold textT
  simp only
  rw [e]
  rfl
set_option maxRecDepth 100000 in
theorem first_any (w : World) (ht : Tabs w) : Calls Tryd.prog 7 #[] w (Grew (.bool true) w) := by
  have HT := Lib.hid (text_any ⟨4, ⟨#[]⟩, 2⟩ (by decide) (by decide) (by decide) (by decide) w ht)
  rw [text_a2] at HT
  simp only [encT] at HT
  go_enter Tryd.func7, Tryd.ntmps7
  go_wp2_with (go_at_call 21; refine HT.out.mono ?_; rintro e w' ⟨rfl, hb⟩)
  go_ret
  exact ⟨rfl, hb⟩
end Go.Proofs.YtcplajplbocieaaDoor
