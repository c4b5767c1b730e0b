/- Regions that draw their order, whose calls leave all that lay: the class of worlds; tags in rows of their own. No conditions. -/
import Derived.Test.YtcplajplbocieaaDoorTg4
import Derived.BigQuiet
import Derived.Deep.QuietTactic
namespace Go.Proofs.YtcplajplbocieaaDoor
open Go.RowKit Go.Sort Go.Lib

/-- a world behind another, with all its rows -/
structure Aft (W : World) where
  «at» : World
  below : Below W.heap.size W «at»
instance (W : World) : Nonempty (Aft W) := ⟨⟨W, Below.refl _ _⟩⟩
theorem call_ok {P : Program} {f : FuncId} {args : Array Value} {v : Value} {W : World} {s : Aft W} (h : Calls P f args s.at (Grew v s.at)) : Calls P f args s.at fun e w'' => e = .returned v ∧ ∃ s' : Aft W, w'' = s'.at :=
  h.mono fun _ w'' ⟨h1, h2⟩ => ⟨h1, ⟨w'', s.below.trans (h2.mono s.below.size)⟩, rfl⟩
theorem region_quiet_lit {P : Program} {C : World → Prop} {id : Nat} {Q : Exit → Act → World → Prop} {a : Act} {w : World} {l : List Oper} (hm : P.follows .mixedOrders = true) (hB : Region.lexB .any l.toArray = true) (hC : C w.drew)
    (h : wpQuiet P l.toArray C (fun a' => ∀ w', C w' → Q .normal a' w') l a) : (Code.region id l.toArray true).wp P Q a w :=
  wp_region_quiet (C := C) hm hB hC (by simpa using h)
/-- A tag in a row of its own. -/
def BoxT (w : World) (b : Nat) (x : Tg) : Prop := w.cell? ⟨b, 0, none⟩ = some (.int .i64 x.k) ∧ w.cell? ⟨b, 1, none⟩ = some (.string x.s) ∧ w.cell? ⟨b, 2, none⟩ = some (.int .i64 x.n)
theorem BoxT.of (w : World) (b : Nat) (x : Tg) {t : TypeId} {fr : Nat × Nat} (h : w.heap[b]? = some (.cells (encT x).toArray t fr)) : BoxT w b x :=
  ⟨cell_of_row w b 0 _ _ _ h, cell_of_row w b 1 _ _ _ h, cell_of_row w b 2 _ _ _ h⟩
theorem BoxT.below {w w' : World} {b : Nat} {x : Tg} (h : BoxT w b x) (hl : b < w.heap.size) (hb : Below w.heap.size w w') : BoxT w' b x := by
  refine ⟨?_, ?_, ?_⟩ <;> rw [hb.cell (p := ⟨b, _, none⟩) hl]
  · exact h.1
  · exact h.2.1
  · exact h.2.2
end Go.Proofs.YtcplajplbocieaaDoor
