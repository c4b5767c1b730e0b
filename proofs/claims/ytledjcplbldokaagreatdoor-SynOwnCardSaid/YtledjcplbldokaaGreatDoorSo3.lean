/- SynOwn: the law answers true. Conditions: the listed variables read as start-up lays them. -/
import Derived.Test.YtledjcplbldokaaGreatDoorSo2
import Derived.Test.YtledjcplbldokaaGreatDoorSynOwnA
namespace Go.Proofs.YtledjcplbldokaaGreatDoor
open Go.ChangeShapes Go.WideShapes Go.ChangeAt Go.RowKit

/-- Where a call begins: it begins so behind whatever leaves memory as it was. -/
theorem starts_below {sy : Nat → Value} {gs : Ex.GS} {es : Ex.ES} {W W' : World} {size : Nat → Nat} {ea : Nat → Addr} {ez : Nat → Nat} (h : Ex.Starts sy gs es W size ea ez) (hb : Below W.heap.size W W') : Ex.Starts sy gs es W' size ea ez :=
  ⟨fun g l hl => by
    obtain ⟨h1, cs, t, k, h2, h3⟩ := h.rows g l hl
    exact ⟨h1, cs, t, k, (hb.block g (Array.getElem?_eq_some_iff.1 h2).1).trans h2, h3⟩,
   fun i p hp => by
    obtain ⟨h1, h2, c, u, s, h3, h4⟩ := h.errs i p hp
    exact ⟨h1, h2, c, u, s, (hb.block _ (Array.getElem?_eq_some_iff.1 h3).1).trans h3, h4⟩,
   h.texts, h.mixed⟩
theorem synOwn_any (v : Value) (x : Int) (hx : (Lit.int .i64 x).wf = true) (W : World) (hp : ∃ ds fs, PrV W ds fs v) (ht : ∀ sy : Nat → Value, ∃ size ea ez, Ex.Starts sy (Ex.gsFrom 278 synOwn_tabs 1024 synOwn_errs) (Ex.esFrom 1024 synOwn_errs) W size ea ez) :
    Calls Tryz.prog 3 #[v, .int .i64 x] W (Grew (.bool true) W) := by
  obtain ⟨ds, fs, hp⟩ := hp
  refine synOwn_core ds fs v x hx W hp fun w' hb => ?_
  exact synOwn_first w' fun sy => by
    obtain ⟨size, ea, ez, h⟩ := ht sy
    exact ⟨size, ea, ez, starts_below h hb⟩
end Go.Proofs.YtledjcplbldokaaGreatDoor
