/- Tags: gristmillref.SameTag: its contract. Conditions: none. -/
import Derived.Test.YtcplajplbocieaaDoorTg4
namespace Go.Proofs.YtcplajplbocieaaDoor
open Go.RowKit Go.Sort Go.Lib
set_option maxRecDepth 100000 in
theorem sameTag_any (x y : Tg) (w : World) : Calls Tryd.prog 23 #[.agg (encT x).toArray, .agg (encT y).toArray] w (Grew (.bool (eqT x y)) w) := by
  obtain ⟨xk, xs, xn⟩ := x
  obtain ⟨yk, ys, yn⟩ := y
  unfold eqT
  simp only [encT]
  have hb := ((Below.refl _ w).alloc (Nat.le_refl _) (.cells #[.int .i64 xk, .string xs, .int .i64 xn] 23)).alloc (by simp) (.cells #[.int .i64 yk, .string ys, .int .i64 yn] 23)
  have HB := Lib.hid hb
  clear hb
  cases h1 : (xk == yk) <;> cases h2 : (xs.toList == ys.toList) <;> cases h3 : (xn == yn)
  all_goals
    go_enter Tryd.func23, Tryd.ntmps23
    go_wp2_with fail
    go_ret
    exact ⟨rfl, HB.out⟩
end Go.Proofs.YtcplajplbocieaaDoor
