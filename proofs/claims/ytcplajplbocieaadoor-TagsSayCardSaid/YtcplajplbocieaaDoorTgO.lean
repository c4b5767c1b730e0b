/- Tags that came in: what is read of them, as plain data. No conditions. -/
import Derived.Test.YtcplajplbocieaaDoorTg4
import Derived.ProofKit
import Derived.OpenShut
import Derived.ChangeSlices
import Derived.ChangeArms
import Derived.SizedLaws
namespace Go.Proofs.YtcplajplbocieaaDoor
open Go.ChangeShapes Go.WideShapes Go.ChangeAt Go.RowKit

/-- What a string or a slice may take (2 ^ 47, in bytes). -/
abbrev reach : Nat := 140737488355328
section
variable {H : Type} {enc : TypeId × Value → H} {P : Program} {W : World} {spare : Nat → Bool} {held : Bool}
/-- What a reading holds takes no more than may be. -/
def WOk (P : Program) (t : TypeId) (d : DataW H) : Prop := ∀ n ∈ d.weights P t, n ≤ reachBytes
theorem wall_mem {e : TypeId} : ∀ {ds : List (DataW H)} {d : DataW H}, d ∈ ds → ∀ n ∈ d.weights P e, n ∈ DataW.weightsAll P e ds
  | d0 :: ds, d, h, n, hn => by
    simp only [DataW.weightsAll, List.mem_append]
    rcases List.mem_cons.1 h with rfl | h
    · exact .inl hn
    · exact .inr (wall_mem h n hn)
theorem wok_str {t : TypeId} {s : ByteArray} (h : WOk P t (.lit (.string s.data.toList) : DataW H)) : s.size ≤ reach := by
  have h1 := h s.data.toList.length (by simp only [DataW.weights, List.mem_singleton])
  have h2 : reachBytes ≤ reach := by decide
  have h3 : s.data.toList.length = s.size := Array.length_toList
  omega
/-- A slice whose elements take k cells. -/
theorem sl_open {t e : TypeId} {k fuel : Nat} {cs : List Value} {x : DataW H × List MemPlace} (hz : WOk P t x.1) (hbe : 0 < P.bytesOf e) (hk : P.cellsOf e = k) (hk0 : 0 < k) (ht : P.underlying t = some (.slice e)) (h : DataW.trod enc P W 0 spare held fuel t cs = some x) :
    ∃ v len ao cap, cs = [v] ∧ v = .slice ao len cap ∧ len ≤ reach ∧ (ao = none → cap = 0) ∧ (0 < len → ∃ b o, ao = some ⟨b, o, none⟩ ∧ b < W.heap.size) ∧
      ∀ b o, ao = some ⟨b, o, none⟩ → ∃ n, fuel = n + 1 ∧ ∀ i, i < len → ∃ cs' y, cs'.length = k ∧ (∀ j, j < k → W.cell? ⟨b, o + i * k + j, none⟩ = cs'[j]?) ∧ DataW.trod enc P W 0 spare held n e cs' = some y ∧ WOk P e y.1 := by
  rcases DataW.trod_slice ht h with ⟨rfl, _⟩ | ⟨a, len, cap, elems, rest, n, hn, rfl, hx, hb, hl, hm, hlen, hel, _, _⟩
  · exact ⟨_, 0, none, 0, rfl, rfl, Nat.zero_le _, fun _ => rfl, fun h => absurd h (Nat.lt_irrefl _), fun b o e => by cases e⟩
  · subst hx
    have hwt : ∀ n ∈ ((elems.map (·.1)).length + (rest.map (·.1)).length) * P.bytesOf e :: (DataW.weightsAll P e (elems.map (·.1)) ++ DataW.weightsAll P e (rest.map (·.1))), n ≤ reachBytes := fun n hn => hz n (by simp only [DataW.weights, ht]; exact hn)
    have hreach : len ≤ reach := by
      have h1 := hwt _ (List.mem_cons_self ..)
      rw [List.length_map, List.length_map, hlen] at h1
      have h2 : len * 1 ≤ (len + rest.length) * P.bytesOf e := Nat.mul_le_mul (Nat.le_add_right _ _) hbe
      have h3 : reachBytes ≤ reach := by decide
      omega
    have key : ∀ i, i < len → ∃ cs' y, W.cells? 0 (a.add (i * k)) k = some cs' ∧ DataW.trod enc P W 0 spare held n e cs' = some y ∧ WOk P e y.1 := fun i hi => by
      have := hel i hi
      rw [hk, List.getElem?_eq_getElem (by omega)] at this
      obtain ⟨cs', g1, g2⟩ := Option.bind_eq_some_iff.1 this
      exact ⟨cs', _, g1, g2, fun m hm => hwt m (List.mem_cons_of_mem _ (List.mem_append_left _ (wall_mem (List.mem_map.2 ⟨_, List.getElem_mem _, rfl⟩) m hm)))⟩
    have each : ∀ i, i < len → ∀ cs', W.cells? 0 (a.add (i * k)) k = some cs' → cs'.length = k ∧ ∀ j, j < k → W.cell? ((a.add (i * k)).add j) = cs'[j]? := fun i hi cs' hc => by
      obtain ⟨g1, g2, g3⟩ := World.cells?_some hc
      exact ⟨by simpa using g2, fun j hj => by simpa using g3 j hj⟩
    refine ⟨_, len, some a, cap, rfl, rfl, hreach, (fun h => by cases h), fun hpos => ?_, fun b o ea => ⟨n, hn, fun i hi => ?_⟩⟩
    · obtain ⟨cs', y, g1, g2, _⟩ := key 0 hpos
      obtain ⟨g3, g4⟩ := each 0 hpos cs' g1
      have g5 := g4 0 hk0
      rw [List.getElem?_eq_getElem (by omega)] at g5
      obtain ⟨b, o, sp⟩ := a
      have hsp : sp = none := by simpa [Addr.add] using World.cell?_spot g5
      subst hsp
      rw [add_plain, add_plain] at g5
      exact ⟨b, o, rfl, World.block_lt_of_cell? _ _ g5⟩
    · injection ea with ea
      subst ea
      obtain ⟨cs', y, g1, g2, g6⟩ := key i hi
      obtain ⟨g3, g4⟩ := each i hi cs' g1
      refine ⟨cs', y, g3, fun j hj => ?_, g2, g6⟩
      have := g4 j hj
      rw [add_plain, add_plain] at this
      exact this

/-- The fields of a struct. -/
theorem fields_at {t : TypeId} {fs : Array Field} {fuel : Nat} {cs : List Value} {x : DataW H × List MemPlace} (hz : WOk P t x.1) (ht : P.underlying t = some (.struct fs)) (h : DataW.trod enc P W 0 spare held fuel t cs = some x) :
    ∃ n, fuel = n + 1 ∧ cs.length = P.cellsOf t ∧ ∀ (i : Nat) (f : Field), fs[i]? = some f → ∀ ty off k, f.type = ty → f.offset = off → P.cellsOf ty = k → ∃ y, DataW.trod enc P W 0 spare held n ty ((cs.drop off).take k) = some y ∧ WOk P ty y.1 := by
  obtain ⟨xs, n, hn, hx, hl, hlen, hf⟩ := DataW.trod_struct ht h
  subst hx
  refine ⟨n, hn, hl, fun i f hif ty off k e1 e2 e3 => ?_⟩
  subst e1 e2 e3
  have hi : i < xs.length := by
    rw [hlen]
    exact (Array.getElem?_eq_some_iff.1 hif).1
  have := hf i f hif
  rw [List.getElem?_eq_getElem hi] at this
  refine ⟨_, this, fun m hm => hz m ?_⟩
  simp only [DataW.weights, ht]
  refine DataW.weights_mem_each (j := i) (t := f.type) (d := xs[i].1) ?_ ?_ m hm
  · rw [List.getElem?_map, Array.getElem?_toList, hif]; rfl
  · rw [List.getElem?_map, List.getElem?_eq_getElem hi]; rfl
end
theorem three_of {α : Type} {l : List α} (h : l.length = 3) : ∃ a b c, l = [a, b, c] := by
  match l, h with
  | [a, b, c], _ => exact ⟨a, b, c, rfl⟩
/-- A tag whose numbers are 64 bits, its name no longer than may be. -/
def okT (x : Tg) : Prop := -9223372036854775808 ≤ x.n ∧ x.n ≤ 9223372036854775807 ∧ x.s.size ≤ reach
theorem okT_wf {n : Int} (h : (Lit.int .i64 n).wf = true) : -9223372036854775808 ≤ n ∧ n ≤ 9223372036854775807 := by
  have e : IntKind.i64.min ≤ n ∧ n ≤ 9223372036854775807 := by simpa [Lit.wf] using h
  have m : IntKind.i64.min = -9223372036854775808 := rfl
  omega
theorem cellsTag : Tryd.prog.cellsOf 23 = 3 := by kernel_rfl
theorem cellsInt1 : Tryd.prog.cellsOf 3 = 1 := by kernel_rfl
theorem cellsStr1 : Tryd.prog.cellsOf 9 = 1 := by kernel_rfl
section
variable {H : Type} {enc : TypeId × Value → H} {W : World} {spare : Nat → Bool} {held : Bool}
theorem tag_cells {fuel : Nat} {cs : List Value} {x : DataW H × List MemPlace} (hz : WOk Tryd.prog 23 x.1) (h : DataW.trod enc Tryd.prog W 0 spare held fuel 23 cs = some x) : ∃ y : Tg, cs = encT y ∧ okT y := by
  obtain ⟨m, rfl, hl, hf⟩ := fields_at hz Tryd.underlying23 h
  rw [cellsTag] at hl
  obtain ⟨d0, d1, d2, rfl⟩ := three_of hl
  obtain ⟨y0, h0, _⟩ := hf 0 _ rfl 3 0 1 rfl rfl cellsInt1
  obtain ⟨y1, h1, z1⟩ := hf 1 _ rfl 9 1 1 rfl rfl cellsStr1
  obtain ⟨y2, h2, _⟩ := hf 2 _ rfl 3 2 1 rfl rfl cellsInt1
  simp only [List.drop_zero, List.drop_succ_cons, List.take_succ_cons, List.take_zero] at h0 h1 h2
  obtain ⟨k, e0, _, _⟩ := DataW.trod_int Tryd.underlying3 h0
  obtain ⟨s, e1, rfl, _⟩ := DataW.trod_string Tryd.underlying9 h1
  have hs := wok_str z1
  obtain ⟨n, e2, _, hn⟩ := DataW.trod_int Tryd.underlying3 h2
  injection e0 with e0 _
  injection e1 with e1 _
  injection e2 with e2 _
  subst e0 e1 e2
  obtain ⟨g1, g2⟩ := okT_wf hn
  exact ⟨⟨k, s, n⟩, rfl, g1, g2, hs⟩
theorem tag_open {v : Value} {d : DataW H} {p : List MemPlace} (h : DataW.Trod enc Tryd.prog W 0 spare held 23 v d p) (hz : WOk Tryd.prog 23 d) : ∃ y : Tg, v = .agg (encT y).toArray ∧ okT y := by
  obtain ⟨fuel, h⟩ := h
  obtain ⟨y, e, ho⟩ := tag_cells hz h
  refine ⟨y, ?_, ho⟩
  cases v with
  | agg cs => have : cs.toList = encT y := e; rw [← this]
  | _ => exact absurd (congrArg List.length e) (by simp [Value.cells, encT])
theorem tags_open {base : Nat} {v : Value} {d : DataW H} {p : List MemPlace} (hval : Value.okWide Tryd.prog W .any base 24 v) (h : DataW.Trod enc Tryd.prog W 0 spare held 24 v d p) (hz : WOk Tryd.prog 24 d) :
    ∃ ao l cap, v = .slice ao (List.length l) cap ∧ TgAt W ao l ∧ (ao = none → cap = 0) ∧ l.length ≤ reach ∧ ∀ x ∈ l, okT x := by
  obtain ⟨a0, len0, cap0, rfl⟩ := okWide_slice Tryd.underlying24 hval
  obtain ⟨fuel, hf⟩ := h
  obtain ⟨v', len, ao, cap, e, rfl, hm, hc, hp, hel⟩ := sl_open hz (of_decide_eq_true (by kernel_rfl)) cellsTag (by omega) Tryd.underlying24 hf
  simp only [Value.cells, List.cons.injEq, and_true] at e
  rcases Nat.eq_zero_or_pos len with rfl | hpos
  · refine ⟨ao, [], cap, ?_, Or.inl rfl, hc, Nat.zero_le _, fun x hx => by cases hx⟩
    rw [e]; rfl
  obtain ⟨b, o, rfl, hb⟩ := hp hpos
  obtain ⟨n, _, hi⟩ := hel b o rfl
  have key : ∀ k m, m + k = len → ∃ l : List Tg, l.length = k ∧ (∀ x ∈ l, okT x) ∧ ∀ i, i < l.length → ∀ j u, (encT l[i]!)[j]? = some u → W.cell? ⟨b, o + (m + i) * 3 + j, none⟩ = some u := by
    intro k
    induction k with
    | zero => intro m _; exact ⟨[], rfl, (fun x hx => by cases hx), fun i h => absurd h (Nat.not_lt_zero _)⟩
    | succ k ih =>
      intro m hmk
      obtain ⟨l, g1, g3, g2⟩ := ih (m + 1) (by omega)
      obtain ⟨cs', y, c1, c2, c3, hz'⟩ := hi m (by omega)
      obtain ⟨t, rfl, ht⟩ := tag_cells hz' c3
      refine ⟨t :: l, by rw [List.length_cons, g1], fun x hx => ?_, fun i h j u hu => ?_⟩
      · rcases List.mem_cons.1 hx with rfl | hx
        · exact ht
        · exact g3 x hx
      · cases i with
        | zero =>
          have hj : j < 3 := by
            rcases Nat.lt_or_ge j 3 with h | h
            · exact h
            · rw [List.getElem?_eq_none (by exact h)] at hu; cases hu
          rw [show o + (m + 0) * 3 + j = o + m * 3 + j by omega, c2 j hj]
          exact hu
        | succ i =>
          have := g2 i (by simpa using h) j u hu
          rw [show o + (m + (i + 1)) * 3 + j = o + (m + 1 + i) * 3 + j by omega]
          exact this
  obtain ⟨l, g1, g3, g2⟩ := key len 0 (by omega)
  refine ⟨some ⟨b, o, none⟩, l, cap, ?_, Or.inr ⟨b, o, rfl, hb, fun i h j u hu => ?_⟩, (fun h => by cases h), by rw [g1]; exact hm, g3⟩
  · rw [g1]; exact e
  · have := g2 i h j u hu
    rw [Nat.zero_add] at this
    exact this
end
end Go.Proofs.YtcplajplbocieaaDoor
