/- Programs, expressions and types that came in: what is read of them, as plain data. No conditions. -/
import Derived.Test.YtledjcplbldokaaGreatDoorGrew
import Derived.ProofKit
import Derived.OpenShut
import Derived.ChangeSlices
import Derived.ChangeArms
import Derived.Laws.AppendOwn
import Derived.SizedLaws
namespace Go.Proofs.YtledjcplbldokaaGreatDoor
open Go.ChangeShapes Go.WideShapes Go.ChangeAt Go.RowKit

/-- Types, one behind the other. -/
inductive Ty where
  | nil
  | node (name : ByteArray) (args : Ty) (rest : Ty)
/-- Expressions, or alternatives, one behind the other. -/
inductive Ex where
  | nil
  | expr (op : Int) (name : ByteArray) (n : Int) (names : List ByteArray) (l : Ex) (alts : Ex) (rest : Ex)
  | alt (take : Int) (name : ByteArray) (n : Int) (names : List ByteArray) (e : Ex) (rest : Ex)
def Ty.len : Ty → Nat
  | .nil => 0
  | .node _ _ r => r.len + 1
def Ex.len : Ex → Nat
  | .nil => 0
  | .expr _ _ _ _ _ _ r => r.len + 1
  | .alt _ _ _ _ _ r => r.len + 1
/-- Expressions alone (true), alternatives alone (false), all the way down. -/
def Ex.wf : Ex → Bool → Prop
  | .nil, _ => True
  | .expr _ _ _ _ l alts r, k => k = true ∧ l.wf true ∧ alts.wf false ∧ r.wf true
  | .alt _ _ _ _ e r, k => k = false ∧ e.wf true ∧ e.len = 1 ∧ r.wf false

/-- What a string or a slice may take (2 ^ 47, in bytes). -/
abbrev reach : Nat := 140737488355328
/-- A slice of so many, whose elements lie as told. -/
def SlAt (w : World) (v : Value) (n : Nat) (P : Nat → Nat → Prop) : Prop := n ≤ reach ∧ ∃ ao cap, v = .slice ao n cap ∧ (ao = none → cap = 0) ∧ (0 < n → ∃ b o, ao = some ⟨b, o, none⟩ ∧ b < w.heap.size ∧ P b o)
def TxIn (w : World) (l : List ByteArray) (b o : Nat) : Prop := ∀ i (h : i < l.length), w.cell? ⟨b, o + i, none⟩ = some (.string l[i]) ∧ l[i].size ≤ reach
def TyIn (w : World) : Ty → Nat → Nat → Nat → Prop
  | .nil, _, _, _ => True
  | .node nm args r, b, o, i => (w.cell? ⟨b, o + i * 2, none⟩ = some (.string nm) ∧ nm.size ≤ reach ∧ ∃ v, w.cell? ⟨b, o + i * 2 + 1, none⟩ = some v ∧ SlAt w v args.len fun b o => TyIn w args b o 0) ∧ TyIn w r b o (i + 1)
def wf64 (n : Int) : Prop := -9223372036854775808 ≤ n ∧ n ≤ 9223372036854775807
def ExIn (w : World) : Ex → Nat → Nat → Nat → Prop
  | .nil, _, _, _ => True
  | .expr op nm n names l alts r, b, o, i =>
    (w.cell? ⟨b, o + i * 6, none⟩ = some (.int .i64 op) ∧ w.cell? ⟨b, o + i * 6 + 1, none⟩ = some (.string nm) ∧ w.cell? ⟨b, o + i * 6 + 2, none⟩ = some (.int .i64 n) ∧ wf64 op ∧ nm.size ≤ reach ∧ wf64 n ∧
      (∃ v, w.cell? ⟨b, o + i * 6 + 3, none⟩ = some v ∧ SlAt w v names.length fun b o => TxIn w names b o) ∧
      (∃ v, w.cell? ⟨b, o + i * 6 + 4, none⟩ = some v ∧ SlAt w v l.len fun b o => ExIn w l b o 0) ∧
      (∃ v, w.cell? ⟨b, o + i * 6 + 5, none⟩ = some v ∧ SlAt w v alts.len fun b o => ExIn w alts b o 0)) ∧ ExIn w r b o (i + 1)
  | .alt take nm n names e r, b, o, i =>
    (w.cell? ⟨b, o + i * 10, none⟩ = some (.int .i64 take) ∧ w.cell? ⟨b, o + i * 10 + 1, none⟩ = some (.string nm) ∧ w.cell? ⟨b, o + i * 10 + 2, none⟩ = some (.int .i64 n) ∧ wf64 take ∧ nm.size ≤ reach ∧ wf64 n ∧
      (∃ v, w.cell? ⟨b, o + i * 10 + 3, none⟩ = some v ∧ SlAt w v names.length fun b o => TxIn w names b o) ∧ ExIn w e b (o + i * 10 + 4) 0) ∧ ExIn w r b o (i + 1)

/-! ### What stands below stands -/
theorem SlAt.mono {w w' : World} {v : Value} {n : Nat} {P Q : Nat → Nat → Prop} (h : SlAt w v n P) (hs : w.heap.size ≤ w'.heap.size) (hPQ : ∀ b o, b < w.heap.size → P b o → Q b o) : SlAt w' v n Q := by
  obtain ⟨h0, ao, cap, h1, h2, h3⟩ := h
  exact ⟨h0, ao, cap, h1, h2, fun hn => by
    obtain ⟨b, o, g1, g2, g3⟩ := h3 hn
    exact ⟨b, o, g1, Nat.lt_of_lt_of_le g2 hs, hPQ b o g2 g3⟩⟩
theorem cell_keep {w w' : World} (hb : Below w.heap.size w w') {b o : Nat} {v : Value} (hlt : b < w.heap.size) (h : w.cell? ⟨b, o, none⟩ = some v) : w'.cell? ⟨b, o, none⟩ = some v := (hb.cell (p := ⟨b, o, none⟩) hlt).trans h
theorem TxIn.below {w w' : World} (hb : Below w.heap.size w w') {l : List ByteArray} {b o : Nat} (hlt : b < w.heap.size) (h : TxIn w l b o) : TxIn w' l b o := fun i hi => ⟨cell_keep hb hlt (h i hi).1, (h i hi).2⟩
theorem TyIn.below {w w' : World} (hb : Below w.heap.size w w') : ∀ {f : Ty} {b o i : Nat}, b < w.heap.size → TyIn w f b o i → TyIn w' f b o i
  | .nil, _, _, _, _, _ => trivial
  | .node _ _ _, _, _, _, hlt, ⟨⟨h1, h2, v, h3, h4⟩, h5⟩ => ⟨⟨cell_keep hb hlt h1, h2, v, cell_keep hb hlt h3, h4.mono hb.size fun _ _ g1 g2 => TyIn.below hb g1 g2⟩, TyIn.below hb hlt h5⟩
theorem ExIn.below {w w' : World} (hb : Below w.heap.size w w') : ∀ {f : Ex} {b o i : Nat}, b < w.heap.size → ExIn w f b o i → ExIn w' f b o i
  | .nil, _, _, _, _, _ => trivial
  | .expr _ _ _ _ _ _ _, _, _, _, hlt, ⟨⟨h1, h2, h3, k1, k2, k3, ⟨v, g1, g2⟩, ⟨v', g3, g4⟩, ⟨v'', g5, g6⟩⟩, h5⟩ =>
    ⟨⟨cell_keep hb hlt h1, cell_keep hb hlt h2, cell_keep hb hlt h3, k1, k2, k3, ⟨v, cell_keep hb hlt g1, g2.mono hb.size fun _ _ a c => TxIn.below hb a c⟩, ⟨v', cell_keep hb hlt g3, g4.mono hb.size fun _ _ a c => ExIn.below hb a c⟩, ⟨v'', cell_keep hb hlt g5, g6.mono hb.size fun _ _ a c => ExIn.below hb a c⟩⟩, ExIn.below hb hlt h5⟩
  | .alt _ _ _ _ _ _, _, _, _, hlt, ⟨⟨h1, h2, h3, k1, k2, k3, ⟨v, g1, g2⟩, g3⟩, h5⟩ =>
    ⟨⟨cell_keep hb hlt h1, cell_keep hb hlt h2, cell_keep hb hlt h3, k1, k2, k3, ⟨v, cell_keep hb hlt g1, g2.mono hb.size fun _ _ a c => TxIn.below hb a c⟩, ExIn.below hb hlt g3⟩, ExIn.below hb hlt h5⟩

/-! ### Opened -/
section
variable {H : Type} {enc : TypeId × Value → H} {P : Program} {W : World} {spare : Nat → Bool} {held : Bool}
/-- What a reading holds takes no more than may be. -/
def WOk (P : Program) (t : TypeId) (d : DataW H) : Prop := ∀ n ∈ d.weights P t, n ≤ reachBytes
theorem wall_mem {e : TypeId} : ∀ {ds : List (DataW H)} {d : DataW H}, d ∈ ds → ∀ n ∈ d.weights P e, n ∈ DataW.weightsAll P e ds
  | d0 :: ds, d, h, n, hn => by
    simp only [DataW.weightsAll, List.mem_append]
    rcases List.mem_cons.1 h with rfl | h
    · exact .inl hn
    · exact .inr (wall_mem h n hn)
theorem wok_str {t : TypeId} {s : ByteArray} (h : WOk P t (.lit (.string s.data.toList) : DataW H)) : s.size ≤ reach := by
  have h1 := h s.data.toList.length (by simp only [DataW.weights, List.mem_singleton])
  have h2 : reachBytes ≤ reach := by decide
  have h3 : s.data.toList.length = s.size := Array.length_toList
  omega
/-- A slice whose elements take k cells. -/
theorem sl_open {t e : TypeId} {k fuel : Nat} {cs : List Value} {x : DataW H × List MemPlace} (hz : WOk P t x.1) (hbe : 0 < P.bytesOf e) (hk : P.cellsOf e = k) (hk0 : 0 < k) (ht : P.underlying t = some (.slice e)) (h : DataW.trod enc P W 0 spare held fuel t cs = some x) :
    ∃ v len ao cap, cs = [v] ∧ v = .slice ao len cap ∧ len ≤ reach ∧ (ao = none → cap = 0) ∧ (0 < len → ∃ b o, ao = some ⟨b, o, none⟩ ∧ b < W.heap.size) ∧
      ∀ b o, ao = some ⟨b, o, none⟩ → ∃ n, fuel = n + 1 ∧ ∀ i, i < len → ∃ cs' y, cs'.length = k ∧ (∀ j, j < k → W.cell? ⟨b, o + i * k + j, none⟩ = cs'[j]?) ∧ DataW.trod enc P W 0 spare held n e cs' = some y ∧ WOk P e y.1 := by
  rcases DataW.trod_slice ht h with ⟨rfl, _⟩ | ⟨a, len, cap, elems, rest, n, hn, rfl, hx, hb, hl, hm, hlen, hel, _, _⟩
  · exact ⟨_, 0, none, 0, rfl, rfl, Nat.zero_le _, fun _ => rfl, fun h => absurd h (Nat.lt_irrefl _), fun b o e => by cases e⟩
  · subst hx
    have hwt : ∀ n ∈ ((elems.map (·.1)).length + (rest.map (·.1)).length) * P.bytesOf e :: (DataW.weightsAll P e (elems.map (·.1)) ++ DataW.weightsAll P e (rest.map (·.1))), n ≤ reachBytes := fun n hn => hz n (by simp only [DataW.weights, ht]; exact hn)
    have hreach : len ≤ reach := by
      have h1 := hwt _ (List.mem_cons_self ..)
      rw [List.length_map, List.length_map, hlen] at h1
      have h2 : len * 1 ≤ (len + rest.length) * P.bytesOf e := Nat.mul_le_mul (Nat.le_add_right _ _) hbe
      have h3 : reachBytes ≤ reach := by decide
      omega
    have key : ∀ i, i < len → ∃ cs' y, W.cells? 0 (a.add (i * k)) k = some cs' ∧ DataW.trod enc P W 0 spare held n e cs' = some y ∧ WOk P e y.1 := fun i hi => by
      have := hel i hi
      rw [hk, List.getElem?_eq_getElem (by omega)] at this
      obtain ⟨cs', g1, g2⟩ := Option.bind_eq_some_iff.1 this
      exact ⟨cs', _, g1, g2, fun m hm => hwt m (List.mem_cons_of_mem _ (List.mem_append_left _ (wall_mem (List.mem_map.2 ⟨_, List.getElem_mem _, rfl⟩) m hm)))⟩
    have each : ∀ i, i < len → ∀ cs', W.cells? 0 (a.add (i * k)) k = some cs' → cs'.length = k ∧ ∀ j, j < k → W.cell? ((a.add (i * k)).add j) = cs'[j]? := fun i hi cs' hc => by
      obtain ⟨g1, g2, g3⟩ := World.cells?_some hc
      exact ⟨by simpa using g2, fun j hj => by simpa using g3 j hj⟩
    refine ⟨_, len, some a, cap, rfl, rfl, hreach, (fun h => by cases h), fun hpos => ?_, fun b o ea => ⟨n, hn, fun i hi => ?_⟩⟩
    · obtain ⟨cs', y, g1, g2, _⟩ := key 0 hpos
      obtain ⟨g3, g4⟩ := each 0 hpos cs' g1
      have g5 := g4 0 hk0
      rw [List.getElem?_eq_getElem (by omega)] at g5
      obtain ⟨b, o, sp⟩ := a
      have hsp : sp = none := by simpa [Addr.add] using World.cell?_spot g5
      subst hsp
      rw [add_plain, add_plain] at g5
      exact ⟨b, o, rfl, World.block_lt_of_cell? _ _ g5⟩
    · injection ea with ea
      subst ea
      obtain ⟨cs', y, g1, g2, g6⟩ := key i hi
      obtain ⟨g3, g4⟩ := each i hi cs' g1
      refine ⟨cs', y, g3, fun j hj => ?_, g2, g6⟩
      have := g4 j hj
      rw [add_plain, add_plain] at this
      exact this

theorem cellsType : Tryz.prog.cellsOf 50 = 2 := by kernel_rfl
theorem cellsExpr : Tryz.prog.cellsOf 35 = 6 := by kernel_rfl
theorem cellsAlt : Tryz.prog.cellsOf 83 = 10 := by kernel_rfl
theorem cellsStr : Tryz.prog.cellsOf 9 = 1 := by kernel_rfl
theorem cellsI : Tryz.prog.cellsOf 3 = 1 := by kernel_rfl
theorem cellsI64 : Tryz.prog.cellsOf 2 = 1 := by kernel_rfl
theorem cellsL1 : Tryz.prog.cellsOf 31 = 1 := by kernel_rfl
theorem cellsL2 : Tryz.prog.cellsOf 46 = 1 := by kernel_rfl
theorem cellsL3 : Tryz.prog.cellsOf 32 = 1 := by kernel_rfl
theorem cellsL4 : Tryz.prog.cellsOf 33 = 1 := by kernel_rfl
theorem wf64_of {n : Int} (h : (Lit.int .i64 n).wf = true) : wf64 n := by
  simpa [wf64, Lit.wf, IntKind.min, IntKind.max, IntKind.signed, IntKind.bits] using h

theorem one_of {α : Type} {l : List α} (h : l.length = 1) : ∃ x, l = [x] := by
  match l, h with
  | [x], _ => exact ⟨x, rfl⟩
/-- A list of texts. -/
theorem tx_open {fuel : Nat} {v : Value} {x : DataW H × List MemPlace} (h : DataW.trod enc Tryz.prog W 0 spare held fuel 31 [v] = some x) (hz : WOk Tryz.prog 31 x.1) : ∃ l : List ByteArray, SlAt W v l.length fun b o => TxIn W l b o := by
  obtain ⟨v', len, ao, cap, e, rfl, hm, hc, hp, hel⟩ := sl_open hz (of_decide_eq_true (by kernel_rfl)) cellsStr (by omega) Tryz.underlying31 h
  injection e with e _
  subst e
  rcases Nat.eq_zero_or_pos len with rfl | hpos
  · exact ⟨[], Nat.zero_le _, ao, cap, rfl, hc, fun h => absurd h (Nat.lt_irrefl _)⟩
  obtain ⟨b, o, rfl, hb⟩ := hp hpos
  obtain ⟨n, _, hi⟩ := hel b o rfl
  have key : ∀ k m, m + k = len → ∃ l : List ByteArray, l.length = k ∧ ∀ i (h : i < l.length), W.cell? ⟨b, o + (m + i), none⟩ = some (.string l[i]) ∧ l[i].size ≤ reach := by
    intro k
    induction k with
    | zero => intro m _; exact ⟨[], rfl, fun i h => absurd h (Nat.not_lt_zero _)⟩
    | succ k ih =>
      intro m hmk
      obtain ⟨l, g1, g2⟩ := ih (m + 1) (by omega)
      obtain ⟨cs', y, c1, c2, c3, hz'⟩ := hi m (by omega)
      obtain ⟨s, rfl, rfl, _⟩ := DataW.trod_string Tryz.underlying9 c3
      have hs := wok_str hz'
      have c4 := c2 0 (by omega)
      refine ⟨s :: l, by rw [List.length_cons, g1], fun i h => ?_⟩
      cases i with
      | zero =>
        rw [show o + (m + 0) = o + m * 1 + 0 by omega]
        exact ⟨c4, hs⟩
      | succ i =>
        have := g2 i (by simpa using h)
        rw [show o + (m + (i + 1)) = o + (m + 1 + i) by omega]
        exact this
  obtain ⟨l, g1, g2⟩ := key len 0 (by omega)
  refine ⟨l, by rw [g1]; exact hm, some ⟨b, o, none⟩, cap, by rw [g1], hc, fun _ => ⟨b, o, rfl, hb, fun i h => ?_⟩⟩
  have := g2 i h
  rw [Nat.zero_add] at this
  exact this

/-- A type's two cells. -/
def TyCs (w : World) (nm : ByteArray) (args : Ty) (cs : List Value) : Prop := nm.size ≤ reach ∧ ∃ v, cs = [.string nm, v] ∧ SlAt w v args.len fun b o => TyIn w args b o 0
theorem tyl_of {n : Nat} (IH : ∀ (cs : List Value) (x : DataW H × List MemPlace), DataW.trod enc Tryz.prog W 0 spare held n 50 cs = some x → WOk Tryz.prog 50 x.1 → ∃ nm args, TyCs W nm args cs)
    {v : Value} {x : DataW H × List MemPlace} (h : DataW.trod enc Tryz.prog W 0 spare held (n + 1) 46 [v] = some x) (hz : WOk Tryz.prog 46 x.1) : ∃ f : Ty, SlAt W v f.len fun b o => TyIn W f b o 0 := by
  obtain ⟨v', len, ao, cap, e, rfl, hm, hc, hp, hel⟩ := sl_open hz (of_decide_eq_true (by kernel_rfl)) cellsType (by omega) Tryz.underlying46 h
  injection e with e _
  subst e
  rcases Nat.eq_zero_or_pos len with rfl | hpos
  · exact ⟨.nil, Nat.zero_le _, ao, cap, rfl, hc, fun h => absurd h (Nat.lt_irrefl _)⟩
  obtain ⟨b, o, rfl, hb⟩ := hp hpos
  obtain ⟨n', hn', hi⟩ := hel b o rfl
  obtain rfl : n = n' := by omega
  have key : ∀ k m, m + k = len → ∃ f : Ty, f.len = k ∧ TyIn W f b o m := by
    intro k
    induction k with
    | zero => intro m _; exact ⟨.nil, rfl, trivial⟩
    | succ k ih =>
      intro m hmk
      obtain ⟨f, g1, g2⟩ := ih (m + 1) (by omega)
      obtain ⟨cs', y, c1, c2, c3, hz'⟩ := hi m (by omega)
      obtain ⟨nm, args, hnm, u, rfl, hs⟩ := IH cs' y c3 hz'
      exact ⟨.node nm args f, by simp only [Ty.len, g1], ⟨c2 0 (by omega), hnm, u, c2 1 (by omega), hs⟩, g2⟩
  obtain ⟨f, g1, g2⟩ := key len 0 (by omega)
  exact ⟨f, by rw [g1]; exact hm, some ⟨b, o, none⟩, cap, by rw [g1], hc, fun _ => ⟨b, o, rfl, hb, g2⟩⟩
/-- The fields of a struct. -/
theorem fields_at {t : TypeId} {fs : Array Field} {fuel : Nat} {cs : List Value} {x : DataW H × List MemPlace} (hz : WOk P t x.1) (ht : P.underlying t = some (.struct fs)) (h : DataW.trod enc P W 0 spare held fuel t cs = some x) :
    ∃ n, fuel = n + 1 ∧ cs.length = P.cellsOf t ∧ ∀ (i : Nat) (f : Field), fs[i]? = some f → ∀ ty off k, f.type = ty → f.offset = off → P.cellsOf ty = k → ∃ y, DataW.trod enc P W 0 spare held n ty ((cs.drop off).take k) = some y ∧ WOk P ty y.1 := by
  obtain ⟨xs, n, hn, hx, hl, hlen, hf⟩ := DataW.trod_struct ht h
  subst hx
  refine ⟨n, hn, hl, fun i f hif ty off k e1 e2 e3 => ?_⟩
  subst e1 e2 e3
  have hi : i < xs.length := by
    rw [hlen]
    exact (Array.getElem?_eq_some_iff.1 hif).1
  have := hf i f hif
  rw [List.getElem?_eq_getElem hi] at this
  refine ⟨_, this, fun m hm => hz m ?_⟩
  simp only [DataW.weights, ht]
  refine DataW.weights_mem_each (j := i) (t := f.type) (d := xs[i].1) ?_ ?_ m hm
  · rw [List.getElem?_map, Array.getElem?_toList, hif]; rfl
  · rw [List.getElem?_map, List.getElem?_eq_getElem hi]; rfl
theorem two_of {α : Type} {l : List α} (h : l.length = 2) : ∃ a b, l = [a, b] := by
  match l, h with
  | [a, b], _ => exact ⟨a, b, rfl⟩
theorem six_of {α : Type} {l : List α} (h : l.length = 6) : ∃ a b c d e f, l = [a, b, c, d, e, f] := by
  match l, h with
  | [a, b, c, d, e, f], _ => exact ⟨a, b, c, d, e, f, rfl⟩
theorem ten_of {α : Type} {l : List α} (h : l.length = 10) : ∃ a b c d e f g i j k, l = [a, b, c, d, e, f, g, i, j, k] := by
  match l, h with
  | [a, b, c, d, e, f, g, i, j, k], _ => exact ⟨a, b, c, d, e, f, g, i, j, k, rfl⟩
theorem ty_open : ∀ (n : Nat) (cs : List Value) (x : DataW H × List MemPlace), DataW.trod enc Tryz.prog W 0 spare held n 50 cs = some x → WOk Tryz.prog 50 x.1 → ∃ nm args, TyCs W nm args cs := by
  intro n
  induction n using Nat.strongRecOn with
  | ind n IH =>
    intro cs x h hz
    obtain ⟨m, rfl, hl, hf⟩ := fields_at hz Tryz.underlying50 h
    rw [cellsType] at hl
    obtain ⟨c0, c1, rfl⟩ := two_of hl
    obtain ⟨y0, h0, z0⟩ := hf 0 _ rfl 9 0 1 rfl rfl cellsStr
    obtain ⟨y1, h1, z1⟩ := hf 1 _ rfl 46 1 1 rfl rfl cellsL2
    simp only [List.drop_zero, List.drop_succ_cons, List.take_succ_cons, List.take_zero] at h0 h1
    obtain ⟨s, e, rfl, _⟩ := DataW.trod_string Tryz.underlying9 h0
    have hs := wok_str z0
    injection e with e _
    subst e
    cases m with
    | zero => simp [DataW.trod] at h1
    | succ m =>
      obtain ⟨f, g⟩ := tyl_of (IH m (by omega)) h1 z1
      exact ⟨s, f, hs, c1, rfl, g⟩

/-- An expression's six cells. -/
def ExCs (w : World) (op : Int) (nm : ByteArray) (n : Int) (names : List ByteArray) (l alts : Ex) (cs : List Value) : Prop :=
  wf64 op ∧ nm.size ≤ reach ∧ wf64 n ∧ l.wf true ∧ alts.wf false ∧ ∃ v1 v2 v3, cs = [.int .i64 op, .string nm, .int .i64 n, v1, v2, v3] ∧ (SlAt w v1 names.length fun b o => TxIn w names b o) ∧ (SlAt w v2 l.len fun b o => ExIn w l b o 0) ∧ (SlAt w v3 alts.len fun b o => ExIn w alts b o 0)
/-- An alternative's ten cells. -/
def AlCs (w : World) (take : Int) (nm : ByteArray) (n : Int) (names : List ByteArray) (op : Int) (nm' : ByteArray) (n' : Int) (names' : List ByteArray) (l alts : Ex) (cs : List Value) : Prop :=
  wf64 take ∧ nm.size ≤ reach ∧ wf64 n ∧ ∃ v1 cs6, cs = .int .i64 take :: .string nm :: .int .i64 n :: v1 :: cs6 ∧ (SlAt w v1 names.length fun b o => TxIn w names b o) ∧ ExCs w op nm' n' names' l alts cs6
theorem exIn_of {op : Int} {nm : ByteArray} {n : Int} {names : List ByteArray} {l alts r : Ex} {cs : List Value} {b o i : Nat} (h : ExCs W op nm n names l alts cs) (hc : ∀ j, j < 6 → W.cell? ⟨b, o + i * 6 + j, none⟩ = cs[j]?) (hr : ExIn W r b o (i + 1)) : ExIn W (.expr op nm n names l alts r) b o i := by
  obtain ⟨k1, k2, k3, _, _, v1, v2, v3, rfl, g1, g2, g3⟩ := h
  exact ⟨⟨hc 0 (by omega), hc 1 (by omega), hc 2 (by omega), k1, k2, k3, ⟨v1, hc 3 (by omega), g1⟩, ⟨v2, hc 4 (by omega), g2⟩, ⟨v3, hc 5 (by omega), g3⟩⟩, hr⟩
theorem exl_of {n : Nat} (IH : ∀ (cs : List Value) (x : DataW H × List MemPlace), DataW.trod enc Tryz.prog W 0 spare held n 35 cs = some x → WOk Tryz.prog 35 x.1 → ∃ op nm k names l alts, ExCs W op nm k names l alts cs)
    {v : Value} {x : DataW H × List MemPlace} (h : DataW.trod enc Tryz.prog W 0 spare held (n + 1) 32 [v] = some x) (hz : WOk Tryz.prog 32 x.1) : ∃ f : Ex, f.wf true ∧ SlAt W v f.len fun b o => ExIn W f b o 0 := by
  obtain ⟨v', len, ao, cap, e, rfl, hm, hc, hp, hel⟩ := sl_open hz (of_decide_eq_true (by kernel_rfl)) cellsExpr (by omega) Tryz.underlying32 h
  injection e with e _
  subst e
  rcases Nat.eq_zero_or_pos len with rfl | hpos
  · exact ⟨.nil, trivial, Nat.zero_le _, ao, cap, rfl, hc, fun h => absurd h (Nat.lt_irrefl _)⟩
  obtain ⟨b, o, rfl, hb⟩ := hp hpos
  obtain ⟨n', hn', hi⟩ := hel b o rfl
  obtain rfl : n = n' := by omega
  have key : ∀ k m, m + k = len → ∃ f : Ex, f.len = k ∧ f.wf true ∧ ExIn W f b o m := by
    intro k
    induction k with
    | zero => intro m _; exact ⟨.nil, rfl, trivial, trivial⟩
    | succ k ih =>
      intro m hmk
      obtain ⟨f, g1, g2, g3⟩ := ih (m + 1) (by omega)
      obtain ⟨cs', y, c1, c2, c3, hz'⟩ := hi m (by omega)
      obtain ⟨op, nm, k', names, l, alts, he⟩ := IH cs' y c3 hz'
      exact ⟨.expr op nm k' names l alts f, by simp only [Ex.len, g1], ⟨rfl, he.2.2.2.1, he.2.2.2.2.1, g2⟩, exIn_of he c2 g3⟩
  obtain ⟨f, g1, g2, g3⟩ := key len 0 (by omega)
  exact ⟨f, g2, by rw [g1]; exact hm, some ⟨b, o, none⟩, cap, by rw [g1], hc, fun _ => ⟨b, o, rfl, hb, g3⟩⟩
theorem all_of {n : Nat} (IH : ∀ (cs : List Value) (x : DataW H × List MemPlace), DataW.trod enc Tryz.prog W 0 spare held n 83 cs = some x → WOk Tryz.prog 83 x.1 → ∃ take nm k names op nm' k' names' l alts, AlCs W take nm k names op nm' k' names' l alts cs)
    {v : Value} {x : DataW H × List MemPlace} (h : DataW.trod enc Tryz.prog W 0 spare held (n + 1) 33 [v] = some x) (hz : WOk Tryz.prog 33 x.1) : ∃ f : Ex, f.wf false ∧ SlAt W v f.len fun b o => ExIn W f b o 0 := by
  obtain ⟨v', len, ao, cap, e, rfl, hm, hc, hp, hel⟩ := sl_open hz (of_decide_eq_true (by kernel_rfl)) cellsAlt (by omega) Tryz.underlying33 h
  injection e with e _
  subst e
  rcases Nat.eq_zero_or_pos len with rfl | hpos
  · exact ⟨.nil, trivial, Nat.zero_le _, ao, cap, rfl, hc, fun h => absurd h (Nat.lt_irrefl _)⟩
  obtain ⟨b, o, rfl, hb⟩ := hp hpos
  obtain ⟨n', hn', hi⟩ := hel b o rfl
  obtain rfl : n = n' := by omega
  have key : ∀ k m, m + k = len → ∃ f : Ex, f.len = k ∧ f.wf false ∧ ExIn W f b o m := by
    intro k
    induction k with
    | zero => intro m _; exact ⟨.nil, rfl, trivial, trivial⟩
    | succ k ih =>
      intro m hmk
      obtain ⟨f, g1, g2, g3⟩ := ih (m + 1) (by omega)
      obtain ⟨cs', y, c1, c2, c3, hz'⟩ := hi m (by omega)
      obtain ⟨take, nm, k', names, op, nm', k2, names', l, alts, q1, q2, q3, v1, cs6, rfl, q4, he⟩ := IH cs' y c3 hz'
      have hE : ExIn W (.expr op nm' k2 names' l alts .nil) b (o + m * 10 + 4) 0 := exIn_of he (fun j hj => by
        have := c2 (4 + j) (by omega)
        rw [show o + m * 10 + (4 + j) = o + m * 10 + 4 + 0 * 6 + j by omega] at this
        rw [this, show 4 + j = j + 1 + 1 + 1 + 1 by omega]
        rfl) trivial
      exact ⟨.alt take nm k' names (.expr op nm' k2 names' l alts .nil) f, by simp only [Ex.len, g1], ⟨rfl, ⟨rfl, he.2.2.2.1, he.2.2.2.2.1, trivial⟩, rfl, g2⟩, ⟨c2 0 (by omega), c2 1 (by omega), c2 2 (by omega), q1, q2, q3, ⟨v1, c2 3 (by omega), q4⟩, hE⟩, g3⟩
  obtain ⟨f, g1, g2, g3⟩ := key len 0 (by omega)
  exact ⟨f, g2, by rw [g1]; exact hm, some ⟨b, o, none⟩, cap, by rw [g1], hc, fun _ => ⟨b, o, rfl, hb, g3⟩⟩
theorem ex_open : ∀ (n : Nat), (∀ (cs : List Value) (x : DataW H × List MemPlace), DataW.trod enc Tryz.prog W 0 spare held n 35 cs = some x → WOk Tryz.prog 35 x.1 → ∃ op nm k names l alts, ExCs W op nm k names l alts cs) ∧
    (∀ (cs : List Value) (x : DataW H × List MemPlace), DataW.trod enc Tryz.prog W 0 spare held n 83 cs = some x → WOk Tryz.prog 83 x.1 → ∃ take nm k names op nm' k' names' l alts, AlCs W take nm k names op nm' k' names' l alts cs) := by
  intro n
  induction n using Nat.strongRecOn with
  | ind n IH =>
    refine ⟨fun cs x h hz => ?_, fun cs x h hz => ?_⟩
    · obtain ⟨m, rfl, hl, hf⟩ := fields_at hz Tryz.underlying35 h
      rw [cellsExpr] at hl
      obtain ⟨c0, c1, c2, c3, c4, c5, rfl⟩ := six_of hl
      obtain ⟨y0, h0, z0⟩ := hf 0 _ rfl 3 0 1 rfl rfl cellsI
      obtain ⟨y1, h1, z1⟩ := hf 1 _ rfl 9 1 1 rfl rfl cellsStr
      obtain ⟨y2, h2, z2⟩ := hf 2 _ rfl 2 2 1 rfl rfl cellsI64
      obtain ⟨y3, h3, z3⟩ := hf 3 _ rfl 31 3 1 rfl rfl cellsL1
      obtain ⟨y4, h4, z4⟩ := hf 4 _ rfl 32 4 1 rfl rfl cellsL3
      obtain ⟨y5, h5, z5⟩ := hf 5 _ rfl 33 5 1 rfl rfl cellsL4
      simp only [List.drop_zero, List.drop_succ_cons, List.take_succ_cons, List.take_zero] at h0 h1 h2 h3 h4 h5
      obtain ⟨op, e, _, w0⟩ := DataW.trod_int Tryz.underlying3 h0
      injection e with e _
      subst e
      obtain ⟨s, e, rfl, _⟩ := DataW.trod_string Tryz.underlying9 h1
      have hs := wok_str z1
      injection e with e _
      subst e
      obtain ⟨k, e, _, w2⟩ := DataW.trod_int Tryz.underlying2 h2
      injection e with e _
      subst e
      obtain ⟨names, gn⟩ := tx_open h3 z3
      cases m with
      | zero => simp [DataW.trod] at h1
      | succ m =>
        obtain ⟨f, f1, f2⟩ := exl_of (IH m (by omega)).1 h4 z4
        obtain ⟨g, g1, g2⟩ := all_of (IH m (by omega)).2 h5 z5
        exact ⟨op, s, k, names, f, g, wf64_of w0, hs, wf64_of w2, f1, g1, c3, c4, c5, rfl, gn, f2, g2⟩
    · obtain ⟨m, rfl, hl, hf⟩ := fields_at hz Tryz.underlying83 h
      rw [cellsAlt] at hl
      obtain ⟨c0, c1, c2, c3, d0, d1, d2, d3, d4, d5, rfl⟩ := ten_of hl
      obtain ⟨y0, h0, z0⟩ := hf 0 _ rfl 3 0 1 rfl rfl cellsI
      obtain ⟨y1, h1, z1⟩ := hf 1 _ rfl 9 1 1 rfl rfl cellsStr
      obtain ⟨y2, h2, z2⟩ := hf 2 _ rfl 2 2 1 rfl rfl cellsI64
      obtain ⟨y3, h3, z3⟩ := hf 3 _ rfl 31 3 1 rfl rfl cellsL1
      obtain ⟨y4, h4, z4⟩ := hf 4 _ rfl 35 4 6 rfl rfl cellsExpr
      simp only [List.drop_zero, List.drop_succ_cons, List.take_succ_cons, List.take_zero] at h0 h1 h2 h3 h4
      obtain ⟨op, e, _, w0⟩ := DataW.trod_int Tryz.underlying3 h0
      injection e with e _
      subst e
      obtain ⟨s, e, rfl, _⟩ := DataW.trod_string Tryz.underlying9 h1
      have hs := wok_str z1
      injection e with e _
      subst e
      obtain ⟨k, e, _, w2⟩ := DataW.trod_int Tryz.underlying2 h2
      injection e with e _
      subst e
      obtain ⟨names, gn⟩ := tx_open h3 z3
      obtain ⟨op', nm', k', names', l, alts, he⟩ := (IH m (by omega)).1 _ _ h4 z4
      exact ⟨op, s, k, names, op', nm', k', names', l, alts, wf64_of w0, hs, wf64_of w2, c3, _, rfl, gn, he⟩
end
end Go.Proofs.YtledjcplbldokaaGreatDoor
