/- TagsUnite: called with any arguments. Conditions: the listed table. -/
import Derived.Test.YtcplajplbocieaaDoorTu3
namespace Go.Proofs.YtcplajplbocieaaDoor
open Go.RowKit Go.Sort Go.Lib
set_option maxRecDepth 100000 in
theorem unite_long (ao bo : Option Addr) (n m ca cb : Nat) (hl : 15 < n ∨ 15 < m) (w : World) (ht : Tabs w) :
    Calls Tryd.prog 5 #[.slice ao n ca, .slice bo m cb] w (Grew (.bool true) w) := by
  have H0 := Lib.hid (first_any w ht)
  by_cases hn : 15 < n
  · have hnz : (15 : Int) < (n : Int) := by omega
    clear hl hn
    go_enter Tryd.func5, Tryd.ntmps5
    go_wp2_with (go_at_call 7; refine H0.out.mono ?_; rintro e w0 ⟨rfl, hb0⟩)
    go_ret
    exact ⟨rfl, hb0⟩
  · have hnz : ¬ (15 : Int) < (n : Int) := by omega
    have hmz : (15 : Int) < (m : Int) := by omega
    clear hl hn
    go_enter Tryd.func5, Tryd.ntmps5
    go_wp2_with (go_at_call 7; refine H0.out.mono ?_; rintro e w0 ⟨rfl, hb0⟩)
    go_ret
    exact ⟨rfl, hb0⟩
theorem tagsUnite_any (ao : Option Addr) (a : List Tg) (ca : Nat) (bo : Option Addr) (b : List Tg) (cb : Nat) (ha : (ao = none → ca = 0) ∧ a.length ≤ reach ∧ ∀ x ∈ a, okT x) (hb : (bo = none → cb = 0) ∧ b.length ≤ reach ∧ ∀ x ∈ b, okT x) (W : World) (h0 : TgAt W ao a) (h1 : TgAt W bo b) (ht : Tabs W) :
    Calls Tryd.prog 5 #[.slice ao a.length ca, .slice bo b.length cb] W (Grew (.bool true) W) := by
  by_cases hl : 15 < a.length ∨ 15 < b.length
  · exact unite_long ao bo a.length b.length ca cb hl W ht
  · exact unite_core a b ao bo ca cb (by omega) (by omega) ha.1 hb.1 W h0 h1 ht
end Go.Proofs.YtcplajplbocieaaDoor
