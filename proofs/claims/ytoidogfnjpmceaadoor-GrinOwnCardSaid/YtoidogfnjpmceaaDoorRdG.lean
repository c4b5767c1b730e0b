/- What is read of data that came in: slices, texts, fields. No conditions. -/
import Derived.Test.YtoidogfnjpmceaaDoorGrew
import Derived.ProofKit
import Derived.OpenShut
import Derived.ChangeSlices
import Derived.ChangeArms
import Derived.Laws.AppendOwn
import Derived.SizedLaws
namespace Go.Proofs.YtoidogfnjpmceaaDoor
open Go.ChangeShapes Go.WideShapes Go.ChangeAt Go.RowKit

/-- What a string or a slice may take (2 ^ 47, in bytes). -/
abbrev reach : Nat := 140737488355328
/-- A slice of so many, whose elements lie as told. -/
def SlAt (w : World) (v : Value) (n : Nat) (P : Nat → Nat → Prop) : Prop := n ≤ reach ∧ ∃ ao cap, v = .slice ao n cap ∧ (ao = none → cap = 0) ∧ (0 < n → ∃ b o, ao = some ⟨b, o, none⟩ ∧ b < w.heap.size ∧ P b o)
def TxIn (w : World) (l : List ByteArray) (b o : Nat) : Prop := ∀ i (h : i < l.length), w.cell? ⟨b, o + i, none⟩ = some (.string l[i]) ∧ l[i].size ≤ reach
def wf64 (n : Int) : Prop := -9223372036854775808 ≤ n ∧ n ≤ 9223372036854775807
/-! ### What stands below stands -/
theorem SlAt.mono {w w' : World} {v : Value} {n : Nat} {P Q : Nat → Nat → Prop} (h : SlAt w v n P) (hs : w.heap.size ≤ w'.heap.size) (hPQ : ∀ b o, b < w.heap.size → P b o → Q b o) : SlAt w' v n Q := by
  obtain ⟨h0, ao, cap, h1, h2, h3⟩ := h
  exact ⟨h0, ao, cap, h1, h2, fun hn => by
    obtain ⟨b, o, g1, g2, g3⟩ := h3 hn
    exact ⟨b, o, g1, Nat.lt_of_lt_of_le g2 hs, hPQ b o g2 g3⟩⟩
theorem cell_keep {w w' : World} (hb : Below w.heap.size w w') {b o : Nat} {v : Value} (hlt : b < w.heap.size) (h : w.cell? ⟨b, o, none⟩ = some v) : w'.cell? ⟨b, o, none⟩ = some v := (hb.cell (p := ⟨b, o, none⟩) hlt).trans h
theorem TxIn.below {w w' : World} (hb : Below w.heap.size w w') {l : List ByteArray} {b o : Nat} (hlt : b < w.heap.size) (h : TxIn w l b o) : TxIn w' l b o := fun i hi => ⟨cell_keep hb hlt (h i hi).1, (h i hi).2⟩
/-! ### Opened -/
section
variable {H : Type} {enc : TypeId × Value → H} {P : Program} {W : World} {spare : Nat → Bool} {held : Bool}
/-- What a reading holds takes no more than may be. -/
def WOk (P : Program) (t : TypeId) (d : DataW H) : Prop := ∀ n ∈ d.weights P t, n ≤ reachBytes
theorem wall_mem {e : TypeId} : ∀ {ds : List (DataW H)} {d : DataW H}, d ∈ ds → ∀ n ∈ d.weights P e, n ∈ DataW.weightsAll P e ds
  | d0 :: ds, d, h, n, hn => by
    simp only [DataW.weightsAll, List.mem_append]
    rcases List.mem_cons.1 h with rfl | h
    · exact .inl hn
    · exact .inr (wall_mem h n hn)
theorem wok_str {t : TypeId} {s : ByteArray} (h : WOk P t (.lit (.string s.data.toList) : DataW H)) : s.size ≤ reach := by
  have h1 := h s.data.toList.length (by simp only [DataW.weights, List.mem_singleton])
  have h2 : reachBytes ≤ reach := by decide
  have h3 : s.data.toList.length = s.size := Array.length_toList
  omega
/-- A slice whose elements take k cells. -/
theorem sl_open {t e : TypeId} {k fuel : Nat} {cs : List Value} {x : DataW H × List MemPlace} (hz : WOk P t x.1) (hbe : 0 < P.bytesOf e) (hk : P.cellsOf e = k) (hk0 : 0 < k) (ht : P.underlying t = some (.slice e)) (h : DataW.trod enc P W 0 spare held fuel t cs = some x) :
    ∃ v len ao cap, cs = [v] ∧ v = .slice ao len cap ∧ len ≤ reach ∧ (ao = none → cap = 0) ∧ (0 < len → ∃ b o, ao = some ⟨b, o, none⟩ ∧ b < W.heap.size) ∧
      ∀ b o, ao = some ⟨b, o, none⟩ → ∃ n, fuel = n + 1 ∧ ∀ i, i < len → ∃ cs' y, cs'.length = k ∧ (∀ j, j < k → W.cell? ⟨b, o + i * k + j, none⟩ = cs'[j]?) ∧ DataW.trod enc P W 0 spare held n e cs' = some y ∧ WOk P e y.1 := by
  rcases DataW.trod_slice ht h with ⟨rfl, _⟩ | ⟨a, len, cap, elems, rest, n, hn, rfl, hx, hb, hl, hm, hlen, hel, _, _⟩
  · exact ⟨_, 0, none, 0, rfl, rfl, Nat.zero_le _, fun _ => rfl, fun h => absurd h (Nat.lt_irrefl _), fun b o e => by cases e⟩
  · subst hx
    have hwt : ∀ n ∈ ((elems.map (·.1)).length + (rest.map (·.1)).length) * P.bytesOf e :: (DataW.weightsAll P e (elems.map (·.1)) ++ DataW.weightsAll P e (rest.map (·.1))), n ≤ reachBytes := fun n hn => hz n (by simp only [DataW.weights, ht]; exact hn)
    have hreach : len ≤ reach := by
      have h1 := hwt _ (List.mem_cons_self ..)
      rw [List.length_map, List.length_map, hlen] at h1
      have h2 : len * 1 ≤ (len + rest.length) * P.bytesOf e := Nat.mul_le_mul (Nat.le_add_right _ _) hbe
      have h3 : reachBytes ≤ reach := by decide
      omega
    have key : ∀ i, i < len → ∃ cs' y, W.cells? 0 (a.add (i * k)) k = some cs' ∧ DataW.trod enc P W 0 spare held n e cs' = some y ∧ WOk P e y.1 := fun i hi => by
      have := hel i hi
      rw [hk, List.getElem?_eq_getElem (by omega)] at this
      obtain ⟨cs', g1, g2⟩ := Option.bind_eq_some_iff.1 this
      exact ⟨cs', _, g1, g2, fun m hm => hwt m (List.mem_cons_of_mem _ (List.mem_append_left _ (wall_mem (List.mem_map.2 ⟨_, List.getElem_mem _, rfl⟩) m hm)))⟩
    have each : ∀ i, i < len → ∀ cs', W.cells? 0 (a.add (i * k)) k = some cs' → cs'.length = k ∧ ∀ j, j < k → W.cell? ((a.add (i * k)).add j) = cs'[j]? := fun i hi cs' hc => by
      obtain ⟨g1, g2, g3⟩ := World.cells?_some hc
      exact ⟨by simpa using g2, fun j hj => by simpa using g3 j hj⟩
    refine ⟨_, len, some a, cap, rfl, rfl, hreach, (fun h => by cases h), fun hpos => ?_, fun b o ea => ⟨n, hn, fun i hi => ?_⟩⟩
    · obtain ⟨cs', y, g1, g2, _⟩ := key 0 hpos
      obtain ⟨g3, g4⟩ := each 0 hpos cs' g1
      have g5 := g4 0 hk0
      rw [List.getElem?_eq_getElem (by omega)] at g5
      obtain ⟨b, o, sp⟩ := a
      have hsp : sp = none := by simpa [Addr.add] using World.cell?_spot g5
      subst hsp
      rw [add_plain, add_plain] at g5
      exact ⟨b, o, rfl, World.block_lt_of_cell? _ _ g5⟩
    · injection ea with ea
      subst ea
      obtain ⟨cs', y, g1, g2, g6⟩ := key i hi
      obtain ⟨g3, g4⟩ := each i hi cs' g1
      refine ⟨cs', y, g3, fun j hj => ?_, g2, g6⟩
      have := g4 j hj
      rw [add_plain, add_plain] at this
      exact this

theorem cellsStr : Tryd.prog.cellsOf 9 = 1 := by kernel_rfl
theorem wf64_of {n : Int} (h : (Lit.int .i64 n).wf = true) : wf64 n := by
  simpa [wf64, Lit.wf, IntKind.min, IntKind.max, IntKind.signed, IntKind.bits] using h

theorem one_of {α : Type} {l : List α} (h : l.length = 1) : ∃ x, l = [x] := by
  match l, h with
  | [x], _ => exact ⟨x, rfl⟩
/-- A list of texts. -/
theorem tx_open {fuel : Nat} {v : Value} {x : DataW H × List MemPlace} (h : DataW.trod enc Tryd.prog W 0 spare held fuel 40 [v] = some x) (hz : WOk Tryd.prog 40 x.1) : ∃ l : List ByteArray, SlAt W v l.length fun b o => TxIn W l b o := by
  obtain ⟨v', len, ao, cap, e, rfl, hm, hc, hp, hel⟩ := sl_open hz (of_decide_eq_true (by kernel_rfl)) cellsStr (by omega) Tryd.underlying40 h
  injection e with e _
  subst e
  rcases Nat.eq_zero_or_pos len with rfl | hpos
  · exact ⟨[], Nat.zero_le _, ao, cap, rfl, hc, fun h => absurd h (Nat.lt_irrefl _)⟩
  obtain ⟨b, o, rfl, hb⟩ := hp hpos
  obtain ⟨n, _, hi⟩ := hel b o rfl
  have key : ∀ k m, m + k = len → ∃ l : List ByteArray, l.length = k ∧ ∀ i (h : i < l.length), W.cell? ⟨b, o + (m + i), none⟩ = some (.string l[i]) ∧ l[i].size ≤ reach := by
    intro k
    induction k with
    | zero => intro m _; exact ⟨[], rfl, fun i h => absurd h (Nat.not_lt_zero _)⟩
    | succ k ih =>
      intro m hmk
      obtain ⟨l, g1, g2⟩ := ih (m + 1) (by omega)
      obtain ⟨cs', y, c1, c2, c3, hz'⟩ := hi m (by omega)
      obtain ⟨s, rfl, rfl, _⟩ := DataW.trod_string Tryd.underlying9 c3
      have hs := wok_str hz'
      have c4 := c2 0 (by omega)
      refine ⟨s :: l, by rw [List.length_cons, g1], fun i h => ?_⟩
      cases i with
      | zero =>
        rw [show o + (m + 0) = o + m * 1 + 0 by omega]
        exact ⟨c4, hs⟩
      | succ i =>
        have := g2 i (by simpa using h)
        rw [show o + (m + (i + 1)) = o + (m + 1 + i) by omega]
        exact this
  obtain ⟨l, g1, g2⟩ := key len 0 (by omega)
  refine ⟨l, by rw [g1]; exact hm, some ⟨b, o, none⟩, cap, by rw [g1], hc, fun _ => ⟨b, o, rfl, hb, fun i h => ?_⟩⟩
  have := g2 i h
  rw [Nat.zero_add] at this
  exact this

/-- The fields of a struct. -/
theorem fields_at {t : TypeId} {fs : Array Field} {fuel : Nat} {cs : List Value} {x : DataW H × List MemPlace} (hz : WOk P t x.1) (ht : P.underlying t = some (.struct fs)) (h : DataW.trod enc P W 0 spare held fuel t cs = some x) :
    ∃ n, fuel = n + 1 ∧ cs.length = P.cellsOf t ∧ ∀ (i : Nat) (f : Field), fs[i]? = some f → ∀ ty off k, f.type = ty → f.offset = off → P.cellsOf ty = k → ∃ y, DataW.trod enc P W 0 spare held n ty ((cs.drop off).take k) = some y ∧ WOk P ty y.1 := by
  obtain ⟨xs, n, hn, hx, hl, hlen, hf⟩ := DataW.trod_struct ht h
  subst hx
  refine ⟨n, hn, hl, fun i f hif ty off k e1 e2 e3 => ?_⟩
  subst e1 e2 e3
  have hi : i < xs.length := by
    rw [hlen]
    exact (Array.getElem?_eq_some_iff.1 hif).1
  have := hf i f hif
  rw [List.getElem?_eq_getElem hi] at this
  refine ⟨_, this, fun m hm => hz m ?_⟩
  simp only [DataW.weights, ht]
  refine DataW.weights_mem_each (j := i) (t := f.type) (d := xs[i].1) ?_ ?_ m hm
  · rw [List.getElem?_map, Array.getElem?_toList, hif]; rfl
  · rw [List.getElem?_map, List.getElem?_eq_getElem hi]; rfl
theorem two_of {α : Type} {l : List α} (h : l.length = 2) : ∃ a b, l = [a, b] := by
  match l, h with
  | [a, b], _ => exact ⟨a, b, rfl⟩
end
end Go.Proofs.YtoidogfnjpmceaaDoor
