/- Tags, as plain data: their order; what compares two of them. Conditions: none. -/
import Derived.Test.YtcplajplbocieaaDoorGrew
import Derived.Test.YtcplajplbocieaaDoorShelf
import Derived.Test.YtcplajplbocieaaDoorShelf2
import Derived.Deep.RegionHeld3
import Derived.RegionTactic
namespace Go.Proofs.YtcplajplbocieaaDoor
open Go.RowKit Go.Sort

structure Tg where
  k : Int
  s : ByteArray
  n : Int
instance : Inhabited Tg := ⟨⟨0, ⟨#[]⟩, 0⟩⟩
def encT (x : Tg) : List Value := [.int .i64 x.k, .string x.s, .int .i64 x.n]
def orI (a b : Int) : Int := if a = 0 then b else a
def cmpT (x y : Tg) : Int := orI (Lib.compareInt x.k y.k) (orI (Lib.compareBytes x.s.data.toList y.s.data.toList) (Lib.compareInt x.n y.n))

set_option maxRecDepth 100000 in
set_option maxHeartbeats 4000000 in
theorem or3_any (b : Nat) (x y z : Int) (w : World) (c0 : w.cell? ⟨b, 0, none⟩ = some (.int .i64 x)) (c1 : w.cell? ⟨b, 1, none⟩ = some (.int .i64 y)) (c2 : w.cell? ⟨b, 2, none⟩ = some (.int .i64 z)) :
    Calls Tryd.prog 36 #[.slice (some ⟨b, 0, none⟩) 3 3] w fun e w' => e = .returned (.int .i64 (orI x (orI y z))) ∧ w' = w := by
  by_cases hx : x = 0
  · subst hx
    by_cases hy : y = 0
    · subst hy
      by_cases hz : z = 0
      · subst hz
        go_enter Tryd.func36, Tryd.ntmps36
        go_wp2_with fail
        refine wp_loop_rounds 4 ?_
        iterate 4
          rw [rounds_succ]
          go_wp2_with fail
        go_ret
        exact ⟨rfl, rfl⟩
      · have hz1 : (z != 0) = true := by simpa using hz
        have e : orI 0 (orI 0 z) = z := rfl
        rw [e]
        go_enter Tryd.func36, Tryd.ntmps36
        go_wp2_with fail
        refine wp_loop_rounds 4 ?_
        iterate 3
          rw [rounds_succ]
          go_wp2_with fail
        go_ret
        exact ⟨rfl, rfl⟩
    · have hy1 : (y != 0) = true := by simpa using hy
      have e : orI 0 (orI y z) = y := by unfold orI; rw [if_pos rfl, if_neg hy]
      rw [e]
      go_enter Tryd.func36, Tryd.ntmps36
      go_wp2_with fail
      refine wp_loop_rounds 4 ?_
      iterate 2
        rw [rounds_succ]
        go_wp2_with fail
      go_ret
      exact ⟨rfl, rfl⟩
  · have hx1 : (x != 0) = true := by simpa using hx
    have e : orI x (orI y z) = x := by unfold orI; rw [if_neg hx]
    rw [e]
    go_enter Tryd.func36, Tryd.ntmps36
    go_wp2_with fail
    refine wp_loop_rounds 4 ?_
    rw [rounds_succ]
    go_wp2_with fail
    go_ret
    exact ⟨rfl, rfl⟩
end Go.Proofs.YtcplajplbocieaaDoor
