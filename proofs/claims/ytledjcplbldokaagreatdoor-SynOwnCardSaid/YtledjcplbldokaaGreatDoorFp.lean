/- Programs in memory, with the rows that they lie in: what is read of them stands as long as those rows stand. No conditions. -/
import Derived.Test.YtledjcplbldokaaGreatDoorSm3
namespace Go.Proofs.YtledjcplbldokaaGreatDoor
open Go.ChangeShapes Go.WideShapes Go.ChangeAt Go.RowKit

/-- A slice of so many, in the rows F (its own first). -/
def SlF (w : World) (v : Value) (n : Nat) (F : List Nat) (P : Nat → Nat → List Nat → Prop) : Prop := n ≤ reach ∧ ∃ ao cap, v = .slice ao n cap ∧ (ao = none → cap = 0) ∧ ((n = 0 ∧ F = []) ∨ (0 < n ∧ ∃ b o F', ao = some ⟨b, o, none⟩ ∧ b < w.heap.size ∧ F = b :: F' ∧ P b o F'))
def TxF (w : World) (l : List ByteArray) (b o : Nat) (F : List Nat) : Prop := F = [] ∧ TxIn w l b o
def TyF (w : World) : Ty → Nat → Nat → Nat → List Nat → Prop
  | .nil, _, _, _, F => F = []
  | .node nm args r, b, o, i, F => ∃ F1 F2, F = F1 ++ F2 ∧ (w.cell? ⟨b, o + i * 2, none⟩ = some (.string nm) ∧ nm.size ≤ reach ∧ ∃ v, w.cell? ⟨b, o + i * 2 + 1, none⟩ = some v ∧ SlF w v args.len F1 fun b o F => TyF w args b o 0 F) ∧ TyF w r b o (i + 1) F2
def ExF (w : World) : Ex → Nat → Nat → Nat → List Nat → Prop
  | .nil, _, _, _, F => F = []
  | .expr op nm n names l alts r, b, o, i, F => ∃ F1 F2 F3 F4, F = F1 ++ F2 ++ F3 ++ F4 ∧
    (w.cell? ⟨b, o + i * 6, none⟩ = some (.int .i64 op) ∧ w.cell? ⟨b, o + i * 6 + 1, none⟩ = some (.string nm) ∧ w.cell? ⟨b, o + i * 6 + 2, none⟩ = some (.int .i64 n) ∧ wf64 op ∧ nm.size ≤ reach ∧ wf64 n ∧
      (∃ v, w.cell? ⟨b, o + i * 6 + 3, none⟩ = some v ∧ SlF w v names.length F1 fun b o F => TxF w names b o F) ∧
      (∃ v, w.cell? ⟨b, o + i * 6 + 4, none⟩ = some v ∧ SlF w v l.len F2 fun b o F => ExF w l b o 0 F) ∧
      (∃ v, w.cell? ⟨b, o + i * 6 + 5, none⟩ = some v ∧ SlF w v alts.len F3 fun b o F => ExF w alts b o 0 F)) ∧ ExF w r b o (i + 1) F4
  | .alt take nm n names e r, b, o, i, F => ∃ F1 F2 F3, F = F1 ++ F2 ++ F3 ∧
    (w.cell? ⟨b, o + i * 10, none⟩ = some (.int .i64 take) ∧ w.cell? ⟨b, o + i * 10 + 1, none⟩ = some (.string nm) ∧ w.cell? ⟨b, o + i * 10 + 2, none⟩ = some (.int .i64 n) ∧ wf64 take ∧ nm.size ≤ reach ∧ wf64 n ∧
      (∃ v, w.cell? ⟨b, o + i * 10 + 3, none⟩ = some v ∧ SlF w v names.length F1 fun b o F => TxF w names b o F) ∧ ExF w e b (o + i * 10 + 4) 0 F2) ∧ ExF w r b o (i + 1) F3

/-- Rows of w that w' has as they were. -/
def KeepF (w w' : World) (F : List Nat) : Prop := w.heap.size ≤ w'.heap.size ∧ ∀ b ∈ F, w'.heap[b]? = w.heap[b]?
theorem KeepF.left {w w' : World} {F G : List Nat} (h : KeepF w w' (F ++ G)) : KeepF w w' F := ⟨h.1, fun b hb => h.2 b (List.mem_append_left _ hb)⟩
theorem KeepF.right {w w' : World} {F G : List Nat} (h : KeepF w w' (F ++ G)) : KeepF w w' G := ⟨h.1, fun b hb => h.2 b (List.mem_append_right _ hb)⟩
theorem cell_row {w w' : World} {b o : Nat} {v : Value} (hb : w'.heap[b]? = w.heap[b]?) (h : w.cell? ⟨b, o, none⟩ = some v) : w'.cell? ⟨b, o, none⟩ = some v := (World.cell?_of_block (a := ⟨b, o, none⟩) hb).trans h
theorem SlF.keep {w w' : World} {v : Value} {n : Nat} {F : List Nat} {P Q : Nat → Nat → List Nat → Prop} (h : SlF w v n F P) (hk : KeepF w w' F) (hPQ : ∀ b o F', b < w.heap.size → F = b :: F' → P b o F' → Q b o F') : SlF w' v n F Q := by
  obtain ⟨h0, ao, cap, h1, h2, h3⟩ := h
  refine ⟨h0, ao, cap, h1, h2, ?_⟩
  rcases h3 with h3 | ⟨hn, b, o, F', g1, g2, g3, g4⟩
  · exact .inl h3
  · exact .inr ⟨hn, b, o, F', g1, Nat.lt_of_lt_of_le g2 hk.1, g3, hPQ b o F' g2 g3 g4⟩
theorem TxF.keep {w w' : World} {l : List ByteArray} {b o : Nat} {F : List Nat} (h : TxF w l b o F) (hb : w'.heap[b]? = w.heap[b]?) : TxF w' l b o F := ⟨h.1, fun i hi => ⟨cell_row hb (h.2 i hi).1, (h.2 i hi).2⟩⟩
theorem TyF.keep {w w' : World} : ∀ {f : Ty} {b o i : Nat} {F : List Nat}, TyF w f b o i F → w'.heap[b]? = w.heap[b]? → KeepF w w' F → TyF w' f b o i F
  | .nil, _, _, _, _, h, _, _ => h
  | .node _ _ _, _, _, _, _, ⟨F1, F2, e, ⟨h1, h2, v, h3, h4⟩, h5⟩, hb, hk => by
    subst e
    exact ⟨F1, F2, rfl, ⟨cell_row hb h1, h2, v, cell_row hb h3, h4.keep hk.left fun b o F' _ e g => g.keep (hk.left.2 b (by rw [e]; exact List.mem_cons_self ..)) ⟨hk.1, fun x hx => hk.left.2 x (by rw [e]; exact List.mem_cons_of_mem _ hx)⟩⟩, h5.keep hb hk.right⟩
theorem ExF.keep {w w' : World} : ∀ {f : Ex} {b o i : Nat} {F : List Nat}, ExF w f b o i F → w'.heap[b]? = w.heap[b]? → KeepF w w' F → ExF w' f b o i F
  | .nil, _, _, _, _, h, _, _ => h
  | .expr _ _ _ _ _ _ _, _, _, _, _, ⟨F1, F2, F3, F4, e, ⟨h1, h2, h3, k1, k2, k3, ⟨v, g1, g2⟩, ⟨v', g3, g4⟩, ⟨v'', g5, g6⟩⟩, h5⟩, hb, hk => by
    subst e
    exact ⟨F1, F2, F3, F4, rfl, ⟨cell_row hb h1, cell_row hb h2, cell_row hb h3, k1, k2, k3,
      ⟨v, cell_row hb g1, g2.keep hk.left.left.left fun b o F' _ e g => g.keep (hk.left.left.left.2 b (by rw [e]; exact List.mem_cons_self ..))⟩,
      ⟨v', cell_row hb g3, g4.keep hk.left.left.right fun b o F' _ e g => g.keep (hk.left.left.right.2 b (by rw [e]; exact List.mem_cons_self ..)) ⟨hk.1, fun x hx => hk.left.left.right.2 x (by rw [e]; exact List.mem_cons_of_mem _ hx)⟩⟩,
      ⟨v'', cell_row hb g5, g6.keep hk.left.right fun b o F' _ e g => g.keep (hk.left.right.2 b (by rw [e]; exact List.mem_cons_self ..)) ⟨hk.1, fun x hx => hk.left.right.2 x (by rw [e]; exact List.mem_cons_of_mem _ hx)⟩⟩⟩, h5.keep hb hk.right⟩
  | .alt _ _ _ _ _ _, _, _, _, _, ⟨F1, F2, F3, e, ⟨h1, h2, h3, k1, k2, k3, ⟨v, g1, g2⟩, g3⟩, h5⟩, hb, hk => by
    subst e
    exact ⟨F1, F2, F3, rfl, ⟨cell_row hb h1, cell_row hb h2, cell_row hb h3, k1, k2, k3,
      ⟨v, cell_row hb g1, g2.keep hk.left.left fun b o F' _ e g => g.keep (hk.left.left.2 b (by rw [e]; exact List.mem_cons_self ..))⟩, g3.keep hb hk.left.right⟩, h5.keep hb hk.right⟩

/-! ### The rows forgotten -/
theorem SlF.in {w : World} {v : Value} {n : Nat} {F : List Nat} {P : Nat → Nat → List Nat → Prop} {Q : Nat → Nat → Prop} (h : SlF w v n F P) (hPQ : ∀ b o F', P b o F' → Q b o) : SlAt w v n Q := by
  obtain ⟨h0, ao, cap, h1, h2, h3⟩ := h
  refine ⟨h0, ao, cap, h1, h2, fun hn => ?_⟩
  rcases h3 with h3 | ⟨_, b, o, F', g1, g2, g3, g4⟩
  · omega
  · exact ⟨b, o, g1, g2, hPQ b o F' g4⟩
theorem TyF.in {w : World} : ∀ {f : Ty} {b o i : Nat} {F : List Nat}, TyF w f b o i F → TyIn w f b o i
  | .nil, _, _, _, _, _ => trivial
  | .node _ _ _, _, _, _, _, ⟨F1, F2, e, ⟨h1, h2, v, h3, h4⟩, h5⟩ => ⟨⟨h1, h2, v, h3, h4.in fun _ _ _ g => g.in⟩, h5.in⟩
theorem ExF.in {w : World} : ∀ {f : Ex} {b o i : Nat} {F : List Nat}, ExF w f b o i F → ExIn w f b o i
  | .nil, _, _, _, _, _ => trivial
  | .expr _ _ _ _ _ _ _, _, _, _, _, ⟨F1, F2, F3, F4, e, ⟨h1, h2, h3, k1, k2, k3, ⟨v, g1, g2⟩, ⟨v', g3, g4⟩, ⟨v'', g5, g6⟩⟩, h5⟩ =>
    ⟨⟨h1, h2, h3, k1, k2, k3, ⟨v, g1, g2.in fun _ _ _ g => g.2⟩, ⟨v', g3, g4.in fun _ _ _ g => g.in⟩, ⟨v'', g5, g6.in fun _ _ _ g => g.in⟩⟩, h5.in⟩
  | .alt _ _ _ _ _ _, _, _, _, _, ⟨F1, F2, F3, e, ⟨h1, h2, h3, k1, k2, k3, ⟨v, g1, g2⟩, g3⟩, h5⟩ =>
    ⟨⟨h1, h2, h3, k1, k2, k3, ⟨v, g1, g2.in fun _ _ _ g => g.2⟩, g3.in⟩, h5.in⟩
end Go.Proofs.YtledjcplbldokaaGreatDoor
