/- Functions and steps that a call has made: each list in a row of its own. No conditions. -/
import Derived.Test.YtoidogfnjpmceaaDoorGe0
import Derived.Deep.AppendLies
import Derived.OwnWalk
namespace Go.Proofs.YtoidogfnjpmceaaDoor
open Go.ChangeShapes Go.WideShapes Go.ChangeAt Go.RowKit

def KeepF (w w' : World) (F : List Nat) : Prop := w.heap.size ≤ w'.heap.size ∧ ∀ b ∈ F, w'.heap[b]? = w.heap[b]?
theorem KeepF.left {w w' : World} {F G : List Nat} (h : KeepF w w' (F ++ G)) : KeepF w w' F := ⟨h.1, fun b hb => h.2 b (List.mem_append_left _ hb)⟩
theorem KeepF.right {w w' : World} {F G : List Nat} (h : KeepF w w' (F ++ G)) : KeepF w w' G := ⟨h.1, fun b hb => h.2 b (List.mem_append_right _ hb)⟩
theorem cell_row {w w' : World} {b o : Nat} {v : Value} (hb : w'.heap[b]? = w.heap[b]?) (h : w.cell? ⟨b, o, none⟩ = some v) : w'.cell? ⟨b, o, none⟩ = some v := (World.cell?_of_block (a := ⟨b, o, none⟩) hb).trans h
def RowO (E k : Nat) (w : World) (v : Value) (n : Nat) (F : List Nat) (P : List Value → List Nat → Prop) : Prop :=
  (n = 0 ∧ v = .slice none 0 0 ∧ F = []) ∨ (0 < n ∧ n ≤ reach ∧ ∃ g cap xs F', v = .slice (some ⟨g, 0, none⟩) n cap ∧ w.ownsRow 0 E k v n xs ∧ P xs F' ∧ F = g :: F')
def TxO (l : List ByteArray) (xs : List Value) (F : List Nat) : Prop := xs = l.map .string ∧ (∀ i (h : i < l.length), l[i].size ≤ reach) ∧ F = []
def vlCells : List Vl → List Value
  | [] => []
  | x :: r => .int .i64 x.k :: .string x.s :: .int .i64 x.n :: vlCells r
def VlO (l : List Vl) (xs : List Value) (F : List Nat) : Prop := xs = vlCells l ∧ (∀ i (h : i < l.length), wf64 l[i].k ∧ l[i].s.size ≤ reach ∧ wf64 l[i].n) ∧ F = []
def StO (w : World) : St → List Value → List Nat → Prop
  | .nil, xs, F => xs = [] ∧ F = []
  | .step op to nm t vals alts n r, xs, F => ∃ v1 v2 xs' F1 F2 F3, xs = [.int .i64 op, .string to, .string nm, .int .i64 t.k, .string t.s, .int .i64 t.n, v1, v2, .int .i64 n] ++ xs' ∧ F = F1 ++ F2 ++ F3 ∧
      wf64 op ∧ to.size ≤ reach ∧ nm.size ≤ reach ∧ wf64 t.k ∧ t.s.size ≤ reach ∧ wf64 t.n ∧ wf64 n ∧ alts.wf false ∧
      RowO 36 3 w v1 vals.length F1 (fun xs F => VlO vals xs F) ∧ RowO 63 6 w v2 alts.len F2 (fun xs F => StO w alts xs F) ∧ StO w r xs' F3
  | .br take t n s r, xs, F => ∃ v1 xs' F1 F2, xs = [.int .i64 take, .int .i64 t.k, .string t.s, .int .i64 t.n, .int .i64 n, v1] ++ xs' ∧ F = F1 ++ F2 ∧
      wf64 take ∧ wf64 t.k ∧ t.s.size ≤ reach ∧ wf64 t.n ∧ wf64 n ∧ s.wf true ∧ RowO 29 9 w v1 s.len F1 (fun xs F => StO w s xs F) ∧ StO w r xs' F2
def FnO (w : World) : List Fn → List Value → List Nat → Prop
  | [], xs, F => xs = [] ∧ F = []
  | x :: r, xs, F => ∃ v1 v2 xs' F1 F2 F3, xs = [.string x.nm, v1, v2] ++ xs' ∧ F = F1 ++ F2 ++ F3 ∧ x.nm.size ≤ reach ∧ x.steps.wf true ∧
      RowO 9 1 w v1 x.params.length F1 (fun xs F => TxO x.params xs F) ∧ RowO 29 9 w v2 x.steps.len F2 (fun xs F => StO w x.steps xs F) ∧ FnO w r xs' F3
def St.app : St → St → St
  | .nil, g => g
  | .step op to nm t vals alts n r, g => .step op to nm t vals alts n (r.app g)
  | .br take t n s r, g => .br take t n s (r.app g)
theorem St.app_assoc : ∀ f g h : St, (f.app g).app h = f.app (g.app h)
  | .nil, _, _ => rfl
  | .step _ _ _ _ _ _ _ r, g, h => by simp [St.app, r.app_assoc g h]
  | .br _ _ _ _ r, g, h => by simp [St.app, r.app_assoc g h]
theorem St.app_nil : ∀ f : St, f.app .nil = f
  | .nil => rfl
  | .step _ _ _ _ _ _ _ r => by simp [St.app, r.app_nil]
  | .br _ _ _ _ r => by simp [St.app, r.app_nil]
theorem StO.app {w : World} : ∀ {f g : St} {xs ys : List Value} {F G : List Nat}, StO w f xs F → StO w g ys G → StO w (f.app g) (xs ++ ys) (F ++ G)
  | .nil, _, _, _, _, _, ⟨h1, h2⟩, h => by subst h1 h2; exact h
  | .step _ _ _ _ _ _ _ r, _, _, _, _, _, ⟨v1, v2, xs', F1, F2, F3, h1, h2, k1, k2, k3, k4, k5, k6, k7, k8, k9, k10, h5⟩, h => by
    subst h1 h2
    exact ⟨v1, v2, _, F1, F2, _, by simp, by simp [List.append_assoc], k1, k2, k3, k4, k5, k6, k7, k8, k9, k10, StO.app h5 h⟩
  | .br _ _ _ _ r, _, _, _, _, _, ⟨v1, xs', F1, F2, h1, h2, k1, k2, k3, k4, k5, k6, k7, h5⟩, h => by
    subst h1 h2
    exact ⟨v1, _, F1, _, by simp, by simp [List.append_assoc], k1, k2, k3, k4, k5, k6, k7, StO.app h5 h⟩
theorem FnO.app {w : World} : ∀ {f g : List Fn} {xs ys : List Value} {F G : List Nat}, FnO w f xs F → FnO w g ys G → FnO w (f ++ g) (xs ++ ys) (F ++ G)
  | [], _, _, _, _, _, ⟨h1, h2⟩, h => by subst h1 h2; exact h
  | _ :: _, _, _, _, _, _, ⟨v, v2, xs', F1, F2, F3, h1, h2, h3, h4, h6, h7, h5⟩, h => by
    subst h1 h2
    exact ⟨v, v2, _, F1, F2, _, by simp, by simp [List.append_assoc], h3, h4, h6, h7, FnO.app h5 h⟩

/-! ### They stand as long as their rows stand -/
theorem owns_keep {w w' : World} {E k n : Nat} {g cap : Nat} {xs : List Value} (h : w.ownsRow 0 E k (.slice (some ⟨g, 0, none⟩) n cap) n xs) (hg : w'.heap[g]? = w.heap[g]?) : w'.ownsRow 0 E k (.slice (some ⟨g, 0, none⟩) n cap) n xs := by
  refine ⟨h.1, ?_⟩
  rcases h.2 with ⟨hn, _⟩ | ⟨g', cap', cur, hv, hb, hgg, rest⟩
  · cases hn
  · injection hv with e1 e2 e3
    injection e1 with e1
    injection e1 with e1
    subst e1
    exact .inr ⟨g, cap', cur, by rw [e3], hb, hg.trans hgg, rest⟩
theorem RowO.keep {E k : Nat} {w w' : World} {v : Value} {n : Nat} {F : List Nat} {P Q : List Value → List Nat → Prop} (h : RowO E k w v n F P) (hk : KeepF w w' F) (hPQ : ∀ xs F', (∀ b ∈ F', b ∈ F) → P xs F' → Q xs F') : RowO E k w' v n F Q := by
  rcases h with h | ⟨hn, hn2, g, cap, xs, F', rfl, ho, hp, rfl⟩
  · exact .inl h
  · exact .inr ⟨hn, hn2, g, cap, xs, F', rfl, owns_keep ho (hk.2 g (List.mem_cons_self ..)), hPQ xs F' (fun b hb => List.mem_cons_of_mem _ hb) hp, rfl⟩
theorem KeepF.sub {w w' : World} {F G : List Nat} (h : KeepF w w' F) (hs : ∀ b ∈ G, b ∈ F) : KeepF w w' G := ⟨h.1, fun b hb => h.2 b (hs b hb)⟩
theorem StO.keep {w w' : World} : ∀ {f : St} {xs : List Value} {F : List Nat}, StO w f xs F → KeepF w w' F → StO w' f xs F
  | .nil, _, _, h, _ => h
  | .step _ _ _ _ _ _ _ r, _, _, ⟨v1, v2, xs', F1, F2, F3, h1, h2, k1, k2, k3, k4, k5, k6, k7, k8, k9, k10, h5⟩, hk => by
    subst h2
    exact ⟨v1, v2, xs', F1, F2, F3, h1, rfl, k1, k2, k3, k4, k5, k6, k7, k8, k9.keep hk.left.left fun _ _ _ hp => hp, k10.keep hk.left.right fun _ _ hs hp => StO.keep hp (hk.left.right.sub hs), StO.keep h5 hk.right⟩
  | .br _ _ _ _ r, _, _, ⟨v1, xs', F1, F2, h1, h2, k1, k2, k3, k4, k5, k6, k7, h5⟩, hk => by
    subst h2
    exact ⟨v1, xs', F1, F2, h1, rfl, k1, k2, k3, k4, k5, k6, k7.keep hk.left fun _ _ hs hp => StO.keep hp (hk.left.sub hs), StO.keep h5 hk.right⟩
theorem FnO.keep {w w' : World} : ∀ {f : List Fn} {xs : List Value} {F : List Nat}, FnO w f xs F → KeepF w w' F → FnO w' f xs F
  | [], _, _, h, _ => h
  | _ :: _, _, _, ⟨v, v2, xs', F1, F2, F3, h1, h2, h3, h4, h6, h7, h5⟩, hk => by
    subst h2
    exact ⟨v, v2, xs', F1, F2, F3, h1, rfl, h3, h4, h6.keep hk.left.left fun _ _ _ hp => hp, h7.keep hk.left.right fun _ _ hs hp => StO.keep hp (hk.left.right.sub hs), FnO.keep h5 hk.right⟩

/-! ### Read as what came in is read -/
theorem owns_cells {w : World} {E k n g cap : Nat} {xs : List Value} (h : w.ownsRow 0 E k (.slice (some ⟨g, 0, none⟩) n cap) n xs) : g < w.heap.size ∧ ∀ j, j < xs.length → w.cell? ⟨g, 0 + j, none⟩ = xs[j]? := by
  rcases h.2 with ⟨hn, _⟩ | ⟨g', cap', cur, hv, hb, hgg, _, _, _, htk⟩
  · cases hn
  · injection hv with e1 e2 e3
    injection e1 with e1
    injection e1 with e1
    subst e1
    refine ⟨(Array.getElem?_eq_some_iff.1 hgg).1, fun j hj => ?_⟩
    rw [Nat.zero_add, cell_of_row w g j cur E (0, 0) hgg, ← htk, List.getElem?_take_of_lt (by rw [← htk] at hj; simp at hj; omega)]
    simp
theorem RowO.in {E k : Nat} {w : World} {v : Value} {n : Nat} {F : List Nat} {P : List Value → List Nat → Prop} {Q : Nat → Nat → Prop} (h : RowO E k w v n F P) (hPQ : ∀ g xs F', P xs F' → (∀ j, j < xs.length → w.cell? ⟨g, 0 + j, none⟩ = xs[j]?) → Q g 0) : SlAt w v n Q := by
  rcases h with ⟨rfl, rfl, -⟩ | ⟨hn, hn2, g, cap, xs, F', rfl, ho, hp, rfl⟩
  · exact ⟨Nat.zero_le _, none, 0, rfl, fun _ => rfl, fun h => absurd h (Nat.lt_irrefl _)⟩
  · obtain ⟨h1, h2⟩ := owns_cells ho
    exact ⟨hn2, some ⟨g, 0, none⟩, cap, rfl, (fun h => by cases h), fun _ => ⟨g, 0, rfl, h1, hPQ g xs F' hp h2⟩⟩
theorem TxO.in {w : World} {l : List ByteArray} {xs : List Value} {F : List Nat} {b o : Nat} (h : TxO l xs F) (hc : ∀ j, j < xs.length → w.cell? ⟨b, o + j, none⟩ = xs[j]?) : TxIn w l b o := fun i hi => by
  obtain ⟨rfl, h2, -⟩ := h
  refine ⟨?_, h2 i hi⟩
  rw [hc i (by simpa using hi)]
  simp [hi]
theorem vlCells_get : ∀ (l : List Vl) (i : Nat) (h : i < l.length), (vlCells l)[i * 3]? = some (.int .i64 l[i].k) ∧ (vlCells l)[i * 3 + 1]? = some (.string l[i].s) ∧ (vlCells l)[i * 3 + 2]? = some (.int .i64 l[i].n)
  | x :: r, 0, _ => ⟨rfl, rfl, rfl⟩
  | x :: r, i + 1, h => by
    have := vlCells_get r i (by simpa using h)
    rw [show (i + 1) * 3 = i * 3 + 1 + 1 + 1 by omega]
    exact this
theorem vlCells_len : ∀ l : List Vl, (vlCells l).length = l.length * 3
  | [] => rfl
  | x :: r => by simp only [vlCells, List.length_cons, vlCells_len r]; omega
theorem VlO.in {w : World} {l : List Vl} {xs : List Value} {F : List Nat} {b o : Nat} (h : VlO l xs F) (hc : ∀ j, j < xs.length → w.cell? ⟨b, o + j, none⟩ = xs[j]?) : VlIn w l b o := fun i hi => by
  obtain ⟨rfl, h2, -⟩ := h
  obtain ⟨g1, g2, g3⟩ := vlCells_get l i hi
  have hl := vlCells_len l
  exact ⟨(hc (i * 3) (by omega)).trans g1, (hc (i * 3 + 1) (by omega)).trans g2, (hc (i * 3 + 2) (by omega)).trans g3, h2 i hi⟩
theorem StO.in {w : World} : ∀ {f : St} {xs : List Value} {F : List Nat} {b o i : Nat}, StO w f xs F → ∀ k, f.wf k → (∀ j, j < xs.length → w.cell? ⟨b, o + i * (if k then 9 else 6) + j, none⟩ = xs[j]?) → StIn w f b o i
  | .nil, _, _, _, _, _, _, _, _, _ => trivial
  | .step _ _ _ _ _ _ _ r, _, _, b, o, i, ⟨v1, v2, xs', F1, F2, F3, h1, h2, k1, k2, k3, k4, k5, k6, k7, k8, k9, k10, h5⟩, k, hw, hc => by
    obtain ⟨rfl, -, hw'⟩ := hw
    subst h1 h2
    simp only [if_true] at hc
    refine ⟨⟨hc 0 (by simp), hc 1 (by simp), hc 2 (by simp), ⟨hc 3 (by simp), hc 4 (by simp), hc 5 (by simp), k4, k5, k6⟩, k1, k2, k3, k7, ⟨v1, hc 6 (by simp), k9.in fun g xs F' hp hcc => hp.in hcc⟩, ⟨v2, hc 7 (by simp), k10.in fun g xs F' hp hcc => StO.in hp false k8 (fun j hj => by simpa using hcc j hj)⟩, hc 8 (by simp)⟩, StO.in h5 true hw' fun j hj => ?_⟩
    have := hc (9 + j) (by simp; omega)
    simp only [if_true]
    rw [show o + i * 9 + (9 + j) = o + (i + 1) * 9 + j by omega] at this
    rw [this, List.getElem?_append_right (by simp)]
    simp
  | .br _ _ _ _ r, _, _, b, o, i, ⟨v1, xs', F1, F2, h1, h2, k1, k2, k3, k4, k5, k6, k7, h5⟩, k, hw, hc => by
    obtain ⟨rfl, -, hw'⟩ := hw
    subst h1 h2
    simp only [Bool.false_eq_true, if_false] at hc
    refine ⟨⟨hc 0 (by simp), ⟨hc 1 (by simp), hc 2 (by simp), hc 3 (by simp), k2, k3, k4⟩, hc 4 (by simp), k1, k5, ⟨v1, hc 5 (by simp), k7.in fun g xs F' hp hcc => StO.in hp true k6 (fun j hj => by simpa using hcc j hj)⟩⟩, StO.in h5 false hw' fun j hj => ?_⟩
    have := hc (6 + j) (by simp; omega)
    simp only [Bool.false_eq_true, if_false]
    rw [show o + i * 6 + (6 + j) = o + (i + 1) * 6 + j by omega] at this
    rw [this, List.getElem?_append_right (by simp)]
    simp
theorem FnO.in {w : World} : ∀ {f : List Fn} {xs : List Value} {F : List Nat} {b o : Nat}, FnO w f xs F → (∀ j, j < xs.length → w.cell? ⟨b, o + j, none⟩ = xs[j]?) → FnIn w f b o
  | [], _, _, _, _, _, _ => fun i h => absurd h (Nat.not_lt_zero _)
  | _ :: r, _, _, b, o, ⟨v, v2, xs', F1, F2, F3, h1, h2, h3, h4, h6, h7, h5⟩, hc => by
    subst h1 h2
    have hr := FnO.in (b := b) (o := o + 3) h5 fun j hj => by
      have := hc (3 + j) (by simp; omega)
      rw [show o + (3 + j) = o + 3 + j by omega] at this
      rw [this, List.getElem?_append_right (by simp)]
      simp
    intro i hi
    cases i with
    | zero =>
      have e0 := hc 0 (by simp)
      have e1 := hc 1 (by simp)
      have e2 := hc 2 (by simp)
      exact ⟨by simpa using e0, h3, ⟨v, by simpa using e1, h6.in fun g xs F' hp hcc => hp.in hcc⟩, v2, by simpa using e2, h4, h7.in fun g xs F' hp hcc => StO.in hp true h4 (fun j hj => by simpa using hcc j hj)⟩
    | succ i =>
      have := hr i (by simpa using hi)
      rw [show o + 3 + i * 3 = o + (i + 1) * 3 by omega] at this
      exact this
end Go.Proofs.YtoidogfnjpmceaaDoor
