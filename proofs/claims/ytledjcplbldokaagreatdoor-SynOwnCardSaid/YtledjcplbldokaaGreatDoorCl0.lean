/- Programs that a call has made: each list in a row of its own. No conditions. -/
import Derived.Test.YtledjcplbldokaaGreatDoorRs4
import Derived.Deep.AppendLies
import Derived.OwnWalk
namespace Go.Proofs.YtledjcplbldokaaGreatDoor
open Go.ChangeShapes Go.WideShapes Go.ChangeAt Go.RowKit

/-- A slice of n elements of k cells in a row of its own (the first of the rows F), or none. -/
def RowO (E k : Nat) (w : World) (v : Value) (n : Nat) (F : List Nat) (P : List Value → List Nat → Prop) : Prop :=
  (n = 0 ∧ v = .slice none 0 0 ∧ F = []) ∨ (0 < n ∧ n ≤ reach ∧ ∃ g cap xs F', v = .slice (some ⟨g, 0, none⟩) n cap ∧ w.ownsRow 0 E k v n xs ∧ P xs F' ∧ F = g :: F')
def TxO (l : List ByteArray) (xs : List Value) (F : List Nat) : Prop := xs = l.map .string ∧ (∀ i (h : i < l.length), l[i].size ≤ reach) ∧ F = []
def TyO (w : World) : Ty → List Value → List Nat → Prop
  | .nil, xs, F => xs = [] ∧ F = []
  | .node nm args r, xs, F => ∃ v xs' F1 F2, xs = [.string nm, v] ++ xs' ∧ F = F1 ++ F2 ∧ nm.size ≤ reach ∧ RowO 50 2 w v args.len F1 (fun xs F => TyO w args xs F) ∧ TyO w r xs' F2
def ExO (w : World) : Ex → List Value → List Nat → Prop
  | .nil, xs, F => xs = [] ∧ F = []
  | .expr op nm n names l alts r, xs, F => ∃ v1 v2 v3 xs' F1 F2 F3 F4, xs = [.int .i64 op, .string nm, .int .i64 n, v1, v2, v3] ++ xs' ∧ F = F1 ++ F2 ++ F3 ++ F4 ∧ wf64 op ∧ nm.size ≤ reach ∧ wf64 n ∧ l.wf true ∧ alts.wf false ∧
      RowO 9 1 w v1 names.length F1 (fun xs F => TxO names xs F) ∧ RowO 35 6 w v2 l.len F2 (fun xs F => ExO w l xs F) ∧ RowO 83 10 w v3 alts.len F3 (fun xs F => ExO w alts xs F) ∧ ExO w r xs' F4
  | .alt take nm n names e r, xs, F => ∃ v1 ys xs' F1 F2 F3, xs = ([.int .i64 take, .string nm, .int .i64 n, v1] ++ ys) ++ xs' ∧ ys.length = 6 ∧ F = F1 ++ F2 ++ F3 ∧ wf64 take ∧ nm.size ≤ reach ∧ wf64 n ∧ e.wf true ∧ e.len = 1 ∧
      RowO 9 1 w v1 names.length F1 (fun xs F => TxO names xs F) ∧ ExO w e ys F2 ∧ ExO w r xs' F3

def Ty.app : Ty → Ty → Ty
  | .nil, g => g
  | .node nm args r, g => .node nm args (r.app g)
def Ex.app : Ex → Ex → Ex
  | .nil, g => g
  | .expr op nm n names l alts r, g => .expr op nm n names l alts (r.app g)
  | .alt take nm n names e r, g => .alt take nm n names e (r.app g)
theorem Ty.app_assoc : ∀ f g h : Ty, (f.app g).app h = f.app (g.app h)
  | .nil, _, _ => rfl
  | .node _ _ r, g, h => by simp [Ty.app, r.app_assoc g h]
theorem Ex.app_assoc : ∀ f g h : Ex, (f.app g).app h = f.app (g.app h)
  | .nil, _, _ => rfl
  | .expr _ _ _ _ _ _ r, g, h => by simp [Ex.app, r.app_assoc g h]
  | .alt _ _ _ _ _ r, g, h => by simp [Ex.app, r.app_assoc g h]
theorem Ty.app_nil : ∀ f : Ty, f.app .nil = f
  | .nil => rfl
  | .node _ _ r => by simp [Ty.app, r.app_nil]
theorem Ex.app_nil : ∀ f : Ex, f.app .nil = f
  | .nil => rfl
  | .expr _ _ _ _ _ _ r => by simp [Ex.app, r.app_nil]
  | .alt _ _ _ _ _ r => by simp [Ex.app, r.app_nil]
theorem TyO.app {w : World} : ∀ {f g : Ty} {xs ys : List Value} {F G : List Nat}, TyO w f xs F → TyO w g ys G → TyO w (f.app g) (xs ++ ys) (F ++ G)
  | .nil, _, _, _, _, _, ⟨h1, h2⟩, h => by subst h1 h2; exact h
  | .node _ _ r, _, _, _, _, _, ⟨v, xs', F1, F2, h1, h2, h3, h4, h5⟩, h => by
    subst h1 h2
    exact ⟨v, _, F1, _, by simp, by simp [List.append_assoc], h3, h4, TyO.app h5 h⟩
theorem ExO.app {w : World} : ∀ {f g : Ex} {xs ys : List Value} {F G : List Nat}, ExO w f xs F → ExO w g ys G → ExO w (f.app g) (xs ++ ys) (F ++ G)
  | .nil, _, _, _, _, _, ⟨h1, h2⟩, h => by subst h1 h2; exact h
  | .expr _ _ _ _ _ _ r, _, _, _, _, _, ⟨v1, v2, v3, xs', F1, F2, F3, F4, h1, h2, k1, k2, k3, k4, k5, k6, k7, k8, h5⟩, h => by
    subst h1 h2
    exact ⟨v1, v2, v3, _, F1, F2, F3, _, by simp, by simp [List.append_assoc], k1, k2, k3, k4, k5, k6, k7, k8, ExO.app h5 h⟩
  | .alt _ _ _ _ _ r, _, _, _, _, _, ⟨v1, zs, xs', F1, F2, F3, h1, h0, h2, k1, k2, k3, k4, k5, k6, k7, h5⟩, h => by
    subst h1 h2
    exact ⟨v1, zs, _, F1, F2, _, by simp [List.append_assoc], h0, by simp [List.append_assoc], k1, k2, k3, k4, k5, k6, k7, ExO.app h5 h⟩

/-! ### They stand as long as their rows stand -/
theorem owns_keep {w w' : World} {E k n : Nat} {g cap : Nat} {xs : List Value} (h : w.ownsRow 0 E k (.slice (some ⟨g, 0, none⟩) n cap) n xs) (hg : w'.heap[g]? = w.heap[g]?) : w'.ownsRow 0 E k (.slice (some ⟨g, 0, none⟩) n cap) n xs := by
  refine ⟨h.1, ?_⟩
  rcases h.2 with ⟨hn, _⟩ | ⟨g', cap', cur, hv, hb, hgg, rest⟩
  · cases hn
  · injection hv with e1 e2 e3
    injection e1 with e1
    injection e1 with e1
    subst e1
    exact .inr ⟨g, cap', cur, by rw [e3], hb, hg.trans hgg, rest⟩
theorem RowO.keep {E k : Nat} {w w' : World} {v : Value} {n : Nat} {F : List Nat} {P Q : List Value → List Nat → Prop} (h : RowO E k w v n F P) (hk : KeepF w w' F) (hPQ : ∀ xs F', (∀ b ∈ F', b ∈ F) → P xs F' → Q xs F') : RowO E k w' v n F Q := by
  rcases h with h | ⟨hn, hn2, g, cap, xs, F', rfl, ho, hp, rfl⟩
  · exact .inl h
  · exact .inr ⟨hn, hn2, g, cap, xs, F', rfl, owns_keep ho (hk.2 g (List.mem_cons_self ..)), hPQ xs F' (fun b hb => List.mem_cons_of_mem _ hb) hp, rfl⟩
theorem KeepF.sub {w w' : World} {F G : List Nat} (h : KeepF w w' F) (hs : ∀ b ∈ G, b ∈ F) : KeepF w w' G := ⟨h.1, fun b hb => h.2 b (hs b hb)⟩
theorem TyO.keep {w w' : World} : ∀ {f : Ty} {xs : List Value} {F : List Nat}, TyO w f xs F → KeepF w w' F → TyO w' f xs F
  | .nil, _, _, h, _ => h
  | .node _ _ _, _, _, ⟨v, xs', F1, F2, h1, h2, h3, h4, h5⟩, hk => by
    subst h2
    exact ⟨v, xs', F1, F2, h1, rfl, h3, h4.keep hk.left fun _ _ hs hp => TyO.keep hp (hk.left.sub hs), TyO.keep h5 hk.right⟩
theorem ExO.keep {w w' : World} : ∀ {f : Ex} {xs : List Value} {F : List Nat}, ExO w f xs F → KeepF w w' F → ExO w' f xs F
  | .nil, _, _, h, _ => h
  | .expr _ _ _ _ _ _ _, _, _, ⟨v1, v2, v3, xs', F1, F2, F3, F4, h1, h2, k1, k2, k3, k4, k5, k6, k7, k8, h5⟩, hk => by
    subst h2
    exact ⟨v1, v2, v3, xs', F1, F2, F3, F4, h1, rfl, k1, k2, k3, k4, k5, k6.keep hk.left.left.left fun _ _ _ hp => hp, k7.keep hk.left.left.right fun _ _ hs hp => ExO.keep hp (hk.left.left.right.sub hs), k8.keep hk.left.right fun _ _ hs hp => ExO.keep hp (hk.left.right.sub hs), ExO.keep h5 hk.right⟩
  | .alt _ _ _ _ _ _, _, _, ⟨v1, zs, xs', F1, F2, F3, h1, h0, h2, k1, k2, k3, k4, k5, k6, k7, h5⟩, hk => by
    subst h2
    exact ⟨v1, zs, xs', F1, F2, F3, h1, h0, rfl, k1, k2, k3, k4, k5, k6.keep hk.left.left fun _ _ _ hp => hp, ExO.keep k7 hk.left.right, ExO.keep h5 hk.right⟩

/-! ### Read as what came in is read -/
theorem owns_cells {w : World} {E k n g cap : Nat} {xs : List Value} (h : w.ownsRow 0 E k (.slice (some ⟨g, 0, none⟩) n cap) n xs) : g < w.heap.size ∧ ∀ j, j < xs.length → w.cell? ⟨g, 0 + j, none⟩ = xs[j]? := by
  rcases h.2 with ⟨hn, _⟩ | ⟨g', cap', cur, hv, hb, hgg, _, _, _, htk⟩
  · cases hn
  · injection hv with e1 e2 e3
    injection e1 with e1
    injection e1 with e1
    subst e1
    refine ⟨(Array.getElem?_eq_some_iff.1 hgg).1, fun j hj => ?_⟩
    rw [Nat.zero_add, cell_of_row w g j cur E (0, 0) hgg, ← htk, List.getElem?_take_of_lt (by rw [← htk] at hj; simp at hj; omega)]
    simp
theorem RowO.in {E k : Nat} {w : World} {v : Value} {n : Nat} {F : List Nat} {P : List Value → List Nat → Prop} {Q : Nat → Nat → Prop} (h : RowO E k w v n F P) (hPQ : ∀ g xs F', P xs F' → (∀ j, j < xs.length → w.cell? ⟨g, 0 + j, none⟩ = xs[j]?) → Q g 0) : SlAt w v n Q := by
  rcases h with ⟨rfl, rfl, -⟩ | ⟨hn, hn2, g, cap, xs, F', rfl, ho, hp, rfl⟩
  · exact ⟨Nat.zero_le _, none, 0, rfl, fun _ => rfl, fun h => absurd h (Nat.lt_irrefl _)⟩
  · obtain ⟨h1, h2⟩ := owns_cells ho
    exact ⟨hn2, some ⟨g, 0, none⟩, cap, rfl, (fun h => by cases h), fun _ => ⟨g, 0, rfl, h1, hPQ g xs F' hp h2⟩⟩
theorem TxO.in {w : World} {l : List ByteArray} {xs : List Value} {F : List Nat} {b o : Nat} (h : TxO l xs F) (hc : ∀ j, j < xs.length → w.cell? ⟨b, o + j, none⟩ = xs[j]?) : TxIn w l b o := fun i hi => by
  obtain ⟨rfl, h2, -⟩ := h
  refine ⟨?_, h2 i hi⟩
  rw [hc i (by simpa using hi)]
  simp [hi]
theorem TyO.in {w : World} : ∀ {f : Ty} {xs : List Value} {F : List Nat} {b o i : Nat}, TyO w f xs F → (∀ j, j < xs.length → w.cell? ⟨b, o + i * 2 + j, none⟩ = xs[j]?) → TyIn w f b o i
  | .nil, _, _, _, _, _, _, _ => trivial
  | .node _ _ _, _, _, b, o, i, ⟨v, xs', F1, F2, h1, h2, h3, h4, h5⟩, hc => by
    subst h1 h2
    refine ⟨⟨hc 0 (by simp), h3, v, hc 1 (by simp), h4.in fun g xs F' hp hcc => TyO.in hp (fun j hj => by simpa using hcc j hj)⟩, TyO.in h5 fun j hj => ?_⟩
    have := hc (2 + j) (by simp; omega)
    rw [show o + i * 2 + (2 + j) = o + (i + 1) * 2 + j by omega] at this
    rw [this, List.getElem?_append_right (by simp)]
    simp
theorem ExO.in {w : World} : ∀ {f : Ex} {xs : List Value} {F : List Nat} {b o i : Nat}, ExO w f xs F → ∀ k, f.wf k → (∀ j, j < xs.length → w.cell? ⟨b, o + i * (if k then 6 else 10) + j, none⟩ = xs[j]?) → ExIn w f b o i
  | .nil, _, _, _, _, _, _, _, _, _ => trivial
  | .expr _ _ _ _ _ _ _, _, _, b, o, i, ⟨v1, v2, v3, xs', F1, F2, F3, F4, h1, h2, k1, k2, k3, k4, k5, k6, k7, k8, h5⟩, k, hw, hc => by
    obtain ⟨rfl, -, -, hw'⟩ := hw
    subst h1 h2
    simp only [if_true] at hc
    refine ⟨⟨hc 0 (by simp), hc 1 (by simp), hc 2 (by simp), k1, k2, k3, ⟨v1, hc 3 (by simp), k6.in fun g xs F' hp hcc => hp.in hcc⟩, ⟨v2, hc 4 (by simp), k7.in fun g xs F' hp hcc => ExO.in hp true k4 (fun j hj => by simpa using hcc j hj)⟩, ⟨v3, hc 5 (by simp), k8.in fun g xs F' hp hcc => ExO.in hp false k5 (fun j hj => by simpa using hcc j hj)⟩⟩, ExO.in h5 true hw' fun j hj => ?_⟩
    have := hc (6 + j) (by simp; omega)
    simp only [if_true]
    rw [show o + i * 6 + (6 + j) = o + (i + 1) * 6 + j by omega] at this
    rw [this, List.getElem?_append_right (by simp)]
    simp
  | .alt _ _ _ _ _ _, _, _, b, o, i, ⟨v1, zs, xs', F1, F2, F3, h1, h0, h2, k1, k2, k3, k4, k5, k6, k7, h5⟩, k, hw, hc => by
    obtain ⟨rfl, -, -, hw'⟩ := hw
    subst h1 h2
    simp only [Bool.false_eq_true, if_false] at hc
    refine ⟨⟨hc 0 (by simp), hc 1 (by simp), hc 2 (by simp), k1, k2, k3, ⟨v1, hc 3 (by simp), k6.in fun g xs F' hp hcc => hp.in hcc⟩, ExO.in k7 true k4 fun j hj => ?_⟩, ExO.in h5 false hw' fun j hj => ?_⟩
    · have := hc (4 + j) (by simp; omega)
      simp only [if_true, Nat.zero_mul, Nat.add_zero]
      rw [show o + i * 10 + (4 + j) = o + i * 10 + 4 + j by omega] at this
      rw [this, List.getElem?_append_left (by simp; omega), List.getElem?_append_right (by simp)]
      simp
    · have := hc (10 + j) (by simp; omega)
      simp only [Bool.false_eq_true, if_false]
      rw [show o + i * 10 + (10 + j) = o + (i + 1) * 10 + j by omega] at this
      rw [this, List.getElem?_append_right (by simp; omega)]
      simp [h0]
end Go.Proofs.YtledjcplbldokaaGreatDoor
