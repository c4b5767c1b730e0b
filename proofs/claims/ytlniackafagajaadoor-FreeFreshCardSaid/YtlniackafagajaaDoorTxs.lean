/- A list of texts that came in: what is read of it. No conditions. -/
import Derived.Test.YtlniackafagajaaDoorFr3
import Derived.ProofKit
import Derived.OpenShut
import Derived.ChangeSlices
import Derived.ChangeArms
namespace Go.Proofs.YtlniackafagajaaDoor
open Go.ChangeShapes Go.WideShapes Go.ChangeAt Go.RowKit

section
variable {H : Type} {enc : TypeId × Value → H} {P : Program} {W : World} {spare : Nat → Bool} {held : Bool}
/-- A slice whose elements take k cells. -/
theorem sl_open {t e : TypeId} {k fuel : Nat} {cs : List Value} {x : DataW H × List MemPlace} (hk : P.cellsOf e = k) (hk0 : 0 < k) (ht : P.underlying t = some (.slice e)) (h : DataW.trod enc P W 0 spare held fuel t cs = some x) :
    ∃ v len ao cap, cs = [v] ∧ v = .slice ao len cap ∧ len ≤ maxLen ∧ (ao = none → cap = 0) ∧ (0 < len → ∃ b o, ao = some ⟨b, o, none⟩ ∧ b < W.heap.size) ∧
      ∀ b o, ao = some ⟨b, o, none⟩ → ∃ n, fuel = n + 1 ∧ ∀ i, i < len → ∃ cs' y, cs'.length = k ∧ (∀ j, j < k → W.cell? ⟨b, o + i * k + j, none⟩ = cs'[j]?) ∧ DataW.trod enc P W 0 spare held n e cs' = some y := by
  rcases DataW.trod_slice ht h with ⟨rfl, _⟩ | ⟨a, len, cap, elems, rest, n, hn, rfl, _, hb, hl, hm, hlen, hel, _, _⟩
  · exact ⟨_, 0, none, 0, rfl, rfl, Nat.zero_le _, fun _ => rfl, fun h => absurd h (Nat.lt_irrefl _), fun b o e => by cases e⟩
  · have key : ∀ i, i < len → ∃ cs' y, W.cells? 0 (a.add (i * k)) k = some cs' ∧ DataW.trod enc P W 0 spare held n e cs' = some y := fun i hi => by
      have := hel i hi
      rw [hk, List.getElem?_eq_getElem (by omega)] at this
      obtain ⟨cs', g1, g2⟩ := Option.bind_eq_some_iff.1 this
      exact ⟨cs', _, g1, g2⟩
    have each : ∀ i, i < len → ∀ cs', W.cells? 0 (a.add (i * k)) k = some cs' → cs'.length = k ∧ ∀ j, j < k → W.cell? ((a.add (i * k)).add j) = cs'[j]? := fun i hi cs' hc => by
      obtain ⟨g1, g2, g3⟩ := World.cells?_some hc
      exact ⟨by simpa using g2, fun j hj => by simpa using g3 j hj⟩
    refine ⟨_, len, some a, cap, rfl, rfl, by omega, (fun h => by cases h), fun hpos => ?_, fun b o ea => ⟨n, hn, fun i hi => ?_⟩⟩
    · obtain ⟨cs', y, g1, g2⟩ := key 0 hpos
      obtain ⟨g3, g4⟩ := each 0 hpos cs' g1
      have g5 := g4 0 hk0
      rw [List.getElem?_eq_getElem (by omega)] at g5
      obtain ⟨b, o, sp⟩ := a
      have hsp : sp = none := by simpa [Addr.add] using World.cell?_spot g5
      subst hsp
      rw [add_plain, add_plain] at g5
      exact ⟨b, o, rfl, World.block_lt_of_cell? _ _ g5⟩
    · injection ea with ea
      subst ea
      obtain ⟨cs', y, g1, g2⟩ := key i hi
      obtain ⟨g3, g4⟩ := each i hi cs' g1
      refine ⟨cs', y, g3, fun j hj => ?_, g2⟩
      have := g4 j hj
      rw [add_plain, add_plain] at this
      exact this

end
theorem cellsStr1 : Tryd.prog.cellsOf 9 = 1 := by kernel_rfl
theorem txs_open {H : Type} {enc : TypeId × Value → H} {W : World} {base : Nat} {v : Value} {d : DataW H} {p : List MemPlace} (hval : Value.okWide Tryd.prog W .any base 22 v) (h : DataW.Trod enc Tryd.prog W 0 (fun _ => true) true 22 v d p) :
    ∃ ao l cap, v = .slice ao (List.length l) cap ∧ NmAt W W.heap.size ao l ∧ (ao = none → l.length = 0 ∧ cap = 0) ∧ l.length ≤ maxLen := by
  obtain ⟨a0, len0, cap0, rfl⟩ := okWide_slice Tryd.underlying22 hval
  obtain ⟨fuel, hf⟩ := h
  obtain ⟨v', len, ao, cap, e, rfl, hm, hc, hp, hel⟩ := sl_open cellsStr1 (by omega) Tryd.underlying22 hf
  simp only [Value.cells, List.cons.injEq, and_true] at e
  rcases Nat.eq_zero_or_pos len with rfl | hpos
  · refine ⟨ao, [], cap, ?_, fun i hi => absurd hi (Nat.not_lt_zero _), fun h => ⟨rfl, hc h⟩, Nat.zero_le _⟩
    rw [e]; rfl
  obtain ⟨b, o, rfl, hb⟩ := hp hpos
  obtain ⟨n, _, hi⟩ := hel b o rfl
  have key : ∀ k m, m + k = len → ∃ l : List ByteArray, l.length = k ∧ ∀ i (h : i < l.length), W.cell? ⟨b, o + (m + i), none⟩ = some (.string l[i]) ∧ l[i].size ≤ maxLen := by
    intro k
    induction k with
    | zero => intro m _; exact ⟨[], rfl, fun i h => absurd h (Nat.not_lt_zero _)⟩
    | succ k ih =>
      intro m hmk
      obtain ⟨l, g1, g2⟩ := ih (m + 1) (by omega)
      obtain ⟨cs', y, c1, c2, c3⟩ := hi m (by omega)
      obtain ⟨s, rfl, _, hs⟩ := DataW.trod_string Tryd.underlying9 c3
      have c4 := c2 0 (by omega)
      refine ⟨s :: l, by rw [List.length_cons, g1], fun i h => ?_⟩
      cases i with
      | zero =>
        rw [show o + (m + 0) = o + m * 1 + 0 by omega]
        exact ⟨c4, hs⟩
      | succ i =>
        have := g2 i (by simpa using h)
        rw [show o + (m + (i + 1)) = o + (m + 1 + i) by omega]
        exact this
  obtain ⟨l, g1, g2⟩ := key len 0 (by omega)
  refine ⟨some ⟨b, o, none⟩, l, cap, ?_, fun i h => ?_, (fun h => by cases h), by rw [g1]; exact hm⟩
  · rw [g1]; exact e
  · have := g2 i h
    rw [Nat.zero_add] at this
    exact ⟨this.2, b, o, rfl, hb, this.1⟩
end Go.Proofs.YtlniackafagajaaDoor
