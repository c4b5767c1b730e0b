/- Words put together with gaps: what the words of the whole are. No conditions. -/
import Derived.Test.YtoobcaegnokdpaaDoorWrd
namespace Go.Proofs.YtoobcaegnokdpaaDoor

def w7 (q : Nat) : List UInt8 := [[40], [41], [97], [45, 53], [120, 95, 49], [102, 43], [67, 111, 110]].getD q []
def g5 (g : Nat) : List UInt8 := [[32], [10], [9, 32, 13], [32, 59, 32, 110, 111, 116, 101, 32, 40, 32, 41, 10], [59, 10]].getD g []
/-- The whole. -/
def txt (L : List (Nat × Nat)) : List UInt8 := L.flatMap fun x => w7 x.1 ++ g5 x.2
/-- The words of the whole. -/
def wl : Nat → List (Nat × Nat) → List (ByteArray × Nat)
  | _, [] => []
  | p, x :: L => (⟨(w7 x.1).toArray⟩, p) :: wl (p + (w7 x.1 ++ g5 x.2).length) L

set_option maxRecDepth 100000 in
theorem one_word (q g p : Nat) (hq : q < 7) (hg : g < 5) (rest : List UInt8) : wds .gap p ((w7 q ++ g5 g) ++ rest) = (⟨(w7 q).toArray⟩, p) :: wds .gap (p + (w7 q ++ g5 g).length) rest := by
  rcases q with _ | _ | _ | _ | _ | _ | _ | q
  case succ.succ.succ.succ.succ.succ.succ => omega
  all_goals
    rcases g with _ | _ | _ | _ | _ | g
    case succ.succ.succ.succ.succ => omega
    all_goals rfl
theorem words_txt (L : List (Nat × Nat)) (h : ∀ x ∈ L, x.1 < 7 ∧ x.2 < 5) : ∀ p, wds .gap p (txt L) = wl p L := by
  induction L with
  | nil => intro p; rfl
  | cons x L ih =>
    intro p
    obtain ⟨h1, h2⟩ := h x (by simp)
    have e : txt (x :: L) = (w7 x.1 ++ g5 x.2) ++ txt L := rfl
    rw [e, one_word x.1 x.2 p h1 h2, ih (fun y hy => h y (List.mem_cons_of_mem _ hy))]
    rfl
theorem txt_snoc (L : List (Nat × Nat)) (x : Nat × Nat) : txt (L ++ [x]) = txt L ++ w7 x.1 ++ g5 x.2 := by
  unfold txt
  rw [List.flatMap_append]
  simp
theorem wl_snoc (L : List (Nat × Nat)) (x : Nat × Nat) : ∀ p, wl p (L ++ [x]) = wl p L ++ [(⟨(w7 x.1).toArray⟩, p + (txt L).length)] := by
  induction L with
  | nil => intro p; rfl
  | cons y L ih =>
    intro p
    have e : (txt (y :: L)).length = (w7 y.1 ++ g5 y.2).length + (txt L).length := by
      show ((w7 y.1 ++ g5 y.2) ++ txt L).length = _
      rw [List.length_append]
    rw [List.cons_append, wl, ih, wl, e, Nat.add_assoc]
    rfl
theorem wl_len (L : List (Nat × Nat)) : ∀ p, (wl p L).length = L.length := by
  induction L with
  | nil => intro p; rfl
  | cons y L ih => intro p; rw [wl, List.length_cons, List.length_cons, ih]
theorem w7_len (q : Nat) : (w7 q).length ≤ 3 := by
  rcases q with _ | _ | _ | _ | _ | _ | _ | q
  case succ.succ.succ.succ.succ.succ.succ => simp [w7]
  all_goals decide
theorem g5_len (g : Nat) : (g5 g).length ≤ 12 := by
  rcases g with _ | _ | _ | _ | _ | g
  case succ.succ.succ.succ.succ => simp [g5]
  all_goals decide
theorem txt_len (L : List (Nat × Nat)) : (txt L).length ≤ 15 * L.length := by
  induction L with
  | nil => exact Nat.le_refl _
  | cons y L ih =>
    show ((w7 y.1 ++ g5 y.2) ++ txt L).length ≤ _
    rw [List.length_append, List.length_append, List.length_cons]
    have := w7_len y.1
    have := g5_len y.2
    omega
end Go.Proofs.YtoobcaegnokdpaaDoor
