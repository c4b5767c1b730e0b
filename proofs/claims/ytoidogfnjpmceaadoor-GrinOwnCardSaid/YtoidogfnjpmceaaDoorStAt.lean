/- Functions and steps that came in: what is read of them, as plain data. No conditions. -/
import Derived.Test.YtoidogfnjpmceaaDoorRdG
import Derived.Test.YtoidogfnjpmceaaDoorTgD
namespace Go.Proofs.YtoidogfnjpmceaaDoor
open Go.ChangeShapes Go.WideShapes Go.ChangeAt Go.RowKit

/-- A value: its kind, name, number. -/
structure Vl where
  k : Int
  s : ByteArray
  n : Int
/-- Steps, or branches, one behind the other. -/
inductive St where
  | nil
  | step (op : Int) (to nm : ByteArray) (t : Tg) (vals : List Vl) (alts : St) (n : Int) (rest : St)
  | br (take : Int) (t : Tg) (n : Int) (steps : St) (rest : St)
def St.len : St → Nat
  | .nil => 0
  | .step _ _ _ _ _ _ _ r => r.len + 1
  | .br _ _ _ _ r => r.len + 1
/-- Steps alone (true), branches alone (false), all the way down. -/
def St.wf : St → Bool → Prop
  | .nil, _ => True
  | .step _ _ _ _ _ a _ r, k => k = true ∧ a.wf false ∧ r.wf true
  | .br _ _ _ s r, k => k = false ∧ s.wf true ∧ r.wf false
/-- A tag in three cells. -/
def TgCs (w : World) (t : Tg) (b o : Nat) : Prop := w.cell? ⟨b, o, none⟩ = some (.int .i64 t.k) ∧ w.cell? ⟨b, o + 1, none⟩ = some (.string t.s) ∧ w.cell? ⟨b, o + 2, none⟩ = some (.int .i64 t.n) ∧ wf64 t.k ∧ t.s.size ≤ reach ∧ wf64 t.n
def VlIn (w : World) (l : List Vl) (b o : Nat) : Prop := ∀ i (h : i < l.length), w.cell? ⟨b, o + i * 3, none⟩ = some (.int .i64 l[i].k) ∧ w.cell? ⟨b, o + i * 3 + 1, none⟩ = some (.string l[i].s) ∧ w.cell? ⟨b, o + i * 3 + 2, none⟩ = some (.int .i64 l[i].n) ∧ wf64 l[i].k ∧ l[i].s.size ≤ reach ∧ wf64 l[i].n
def StIn (w : World) : St → Nat → Nat → Nat → Prop
  | .nil, _, _, _ => True
  | .step op to nm t vals alts n r, b, o, i =>
    (w.cell? ⟨b, o + i * 9, none⟩ = some (.int .i64 op) ∧ w.cell? ⟨b, o + i * 9 + 1, none⟩ = some (.string to) ∧ w.cell? ⟨b, o + i * 9 + 2, none⟩ = some (.string nm) ∧ TgCs w t b (o + i * 9 + 3) ∧ wf64 op ∧ to.size ≤ reach ∧ nm.size ≤ reach ∧ wf64 n ∧
      (∃ v, w.cell? ⟨b, o + i * 9 + 6, none⟩ = some v ∧ SlAt w v vals.length fun b o => VlIn w vals b o) ∧
      (∃ v, w.cell? ⟨b, o + i * 9 + 7, none⟩ = some v ∧ SlAt w v alts.len fun b o => StIn w alts b o 0) ∧
      w.cell? ⟨b, o + i * 9 + 8, none⟩ = some (.int .i64 n)) ∧ StIn w r b o (i + 1)
  | .br take t n steps r, b, o, i =>
    (w.cell? ⟨b, o + i * 6, none⟩ = some (.int .i64 take) ∧ TgCs w t b (o + i * 6 + 1) ∧ w.cell? ⟨b, o + i * 6 + 4, none⟩ = some (.int .i64 n) ∧ wf64 take ∧ wf64 n ∧
      (∃ v, w.cell? ⟨b, o + i * 6 + 5, none⟩ = some v ∧ SlAt w v steps.len fun b o => StIn w steps b o 0)) ∧ StIn w r b o (i + 1)
/-- A function: its name, parameters, steps. -/
structure Fn where
  nm : ByteArray
  params : List ByteArray
  steps : St
def FnIn (w : World) (l : List Fn) (b o : Nat) : Prop := ∀ i (h : i < l.length), w.cell? ⟨b, o + i * 3, none⟩ = some (.string l[i].nm) ∧ l[i].nm.size ≤ reach ∧ (∃ v, w.cell? ⟨b, o + i * 3 + 1, none⟩ = some v ∧ SlAt w v l[i].params.length fun b o => TxIn w l[i].params b o) ∧
  ∃ v, w.cell? ⟨b, o + i * 3 + 2, none⟩ = some v ∧ l[i].steps.wf true ∧ SlAt w v l[i].steps.len fun b o => StIn w l[i].steps b o 0

/-! ### What stands below stands -/
theorem TgCs.below {w w' : World} (hb : Below w.heap.size w w') {t : Tg} {b o : Nat} (hlt : b < w.heap.size) (h : TgCs w t b o) : TgCs w' t b o :=
  ⟨cell_keep hb hlt h.1, cell_keep hb hlt h.2.1, cell_keep hb hlt h.2.2.1, h.2.2.2⟩
theorem VlIn.below {w w' : World} (hb : Below w.heap.size w w') {l : List Vl} {b o : Nat} (hlt : b < w.heap.size) (h : VlIn w l b o) : VlIn w' l b o := fun i hi =>
  ⟨cell_keep hb hlt (h i hi).1, cell_keep hb hlt (h i hi).2.1, cell_keep hb hlt (h i hi).2.2.1, (h i hi).2.2.2⟩
theorem StIn.below {w w' : World} (hb : Below w.heap.size w w') : ∀ {f : St} {b o i : Nat}, b < w.heap.size → StIn w f b o i → StIn w' f b o i
  | .nil, _, _, _, _, _ => trivial
  | .step _ _ _ _ _ _ _ _, _, _, _, hlt, ⟨⟨h1, h2, h3, h4, k1, k2, k3, k4, ⟨v, g1, g2⟩, ⟨v', g3, g4⟩, h5⟩, h6⟩ =>
    ⟨⟨cell_keep hb hlt h1, cell_keep hb hlt h2, cell_keep hb hlt h3, h4.below hb hlt, k1, k2, k3, k4, ⟨v, cell_keep hb hlt g1, g2.mono hb.size fun _ _ a c => VlIn.below hb a c⟩, ⟨v', cell_keep hb hlt g3, g4.mono hb.size fun _ _ a c => StIn.below hb a c⟩, cell_keep hb hlt h5⟩, StIn.below hb hlt h6⟩
  | .br _ _ _ _ _, _, _, _, hlt, ⟨⟨h1, h2, h3, k1, k2, ⟨v, g1, g2⟩⟩, h6⟩ =>
    ⟨⟨cell_keep hb hlt h1, h2.below hb hlt, cell_keep hb hlt h3, k1, k2, ⟨v, cell_keep hb hlt g1, g2.mono hb.size fun _ _ a c => StIn.below hb a c⟩⟩, StIn.below hb hlt h6⟩
theorem FnIn.below {w w' : World} (hb : Below w.heap.size w w') {l : List Fn} {b o : Nat} (hlt : b < w.heap.size) (h : FnIn w l b o) : FnIn w' l b o := fun i hi => by
  obtain ⟨h1, h2, ⟨v, h3, h4⟩, ⟨v', h5, h6, h7⟩⟩ := h i hi
  exact ⟨cell_keep hb hlt h1, h2, ⟨v, cell_keep hb hlt h3, h4.mono hb.size fun _ _ a c => TxIn.below hb a c⟩, ⟨v', cell_keep hb hlt h5, h6, h7.mono hb.size fun _ _ a c => StIn.below hb a c⟩⟩

/-! ### Opened -/
theorem three_of {α : Type} {l : List α} (h : l.length = 3) : ∃ a b c, l = [a, b, c] := by
  match l, h with
  | [a, b, c], _ => exact ⟨a, b, c, rfl⟩
theorem six_of {α : Type} {l : List α} (h : l.length = 6) : ∃ a b c d e f, l = [a, b, c, d, e, f] := by
  match l, h with
  | [a, b, c, d, e, f], _ => exact ⟨a, b, c, d, e, f, rfl⟩
theorem nine_of {α : Type} {l : List α} (h : l.length = 9) : ∃ a b c d e f g i j, l = [a, b, c, d, e, f, g, i, j] := by
  match l, h with
  | [a, b, c, d, e, f, g, i, j], _ => exact ⟨a, b, c, d, e, f, g, i, j, rfl⟩
theorem list_of {α : Type} {len : Nat} {Q : Nat → α → Prop} (h : ∀ i, i < len → ∃ x, Q i x) : ∃ l : List α, l.length = len ∧ ∀ i (hi : i < l.length), Q i l[i] := by
  induction len generalizing Q with
  | zero => exact ⟨[], rfl, fun i hi => absurd hi (Nat.not_lt_zero _)⟩
  | succ n ih =>
    obtain ⟨x, hx⟩ := h 0 (by omega)
    obtain ⟨l, h1, h2⟩ := ih (Q := fun i y => Q (i + 1) y) fun i hi => h (i + 1) (by omega)
    refine ⟨x :: l, by rw [List.length_cons, h1], fun i hi => ?_⟩
    cases i with
    | zero => exact hx
    | succ i => exact h2 i (by simpa using hi)
theorem cellsI : Tryd.prog.cellsOf 3 = 1 := by kernel_rfl
theorem cellsI64 : Tryd.prog.cellsOf 2 = 1 := by kernel_rfl
theorem cellsTag : Tryd.prog.cellsOf 25 = 3 := by kernel_rfl
theorem cellsVal : Tryd.prog.cellsOf 36 = 3 := by kernel_rfl
theorem cellsStep : Tryd.prog.cellsOf 29 = 9 := by kernel_rfl
theorem cellsBr : Tryd.prog.cellsOf 63 = 6 := by kernel_rfl
theorem cellsFn : Tryd.prog.cellsOf 42 = 3 := by kernel_rfl
theorem cellsLT : Tryd.prog.cellsOf 40 = 1 := by kernel_rfl
theorem cellsLV : Tryd.prog.cellsOf 26 = 1 := by kernel_rfl
theorem cellsLB : Tryd.prog.cellsOf 27 = 1 := by kernel_rfl
theorem cellsLS : Tryd.prog.cellsOf 32 = 1 := by kernel_rfl
section
variable {H : Type} {enc : TypeId × Value → H} {W : World} {spare : Nat → Bool} {held : Bool}
theorem tg_cells {fuel : Nat} {cs : List Value} {x : DataW H × List MemPlace} (h : DataW.trod enc Tryd.prog W 0 spare held fuel 25 cs = some x) (hz : WOk Tryd.prog 25 x.1) : ∃ y : Tg, cs = encT y ∧ wf64 y.k ∧ y.s.size ≤ reach ∧ wf64 y.n := by
  obtain ⟨m, rfl, hl, hf⟩ := fields_at hz Tryd.underlying25 h
  rw [cellsTag] at hl
  obtain ⟨d0, d1, d2, rfl⟩ := three_of hl
  obtain ⟨y0, h0, _⟩ := hf 0 _ rfl 3 0 1 rfl rfl cellsI
  obtain ⟨y1, h1, z1⟩ := hf 1 _ rfl 9 1 1 rfl rfl cellsStr
  obtain ⟨y2, h2, _⟩ := hf 2 _ rfl 3 2 1 rfl rfl cellsI
  simp only [List.drop_zero, List.drop_succ_cons, List.take_succ_cons, List.take_zero] at h0 h1 h2
  obtain ⟨k, e0, _, hk⟩ := DataW.trod_int Tryd.underlying3 h0
  obtain ⟨s, e1, rfl, _⟩ := DataW.trod_string Tryd.underlying9 h1
  have hs := wok_str z1
  obtain ⟨n, e2, _, hn⟩ := DataW.trod_int Tryd.underlying3 h2
  injection e0 with e0 _
  injection e1 with e1 _
  injection e2 with e2 _
  subst e0 e1 e2
  exact ⟨⟨k, s, n⟩, rfl, wf64_of hk, hs, wf64_of hn⟩
theorem vl_cells {fuel : Nat} {cs : List Value} {x : DataW H × List MemPlace} (h : DataW.trod enc Tryd.prog W 0 spare held fuel 36 cs = some x) (hz : WOk Tryd.prog 36 x.1) : ∃ y : Vl, cs = [.int .i64 y.k, .string y.s, .int .i64 y.n] ∧ wf64 y.k ∧ y.s.size ≤ reach ∧ wf64 y.n := by
  obtain ⟨m, rfl, hl, hf⟩ := fields_at hz Tryd.underlying36 h
  rw [cellsVal] at hl
  obtain ⟨d0, d1, d2, rfl⟩ := three_of hl
  obtain ⟨y0, h0, _⟩ := hf 0 _ rfl 3 0 1 rfl rfl cellsI
  obtain ⟨y1, h1, z1⟩ := hf 1 _ rfl 9 1 1 rfl rfl cellsStr
  obtain ⟨y2, h2, _⟩ := hf 2 _ rfl 2 2 1 rfl rfl cellsI64
  simp only [List.drop_zero, List.drop_succ_cons, List.take_succ_cons, List.take_zero] at h0 h1 h2
  obtain ⟨k, e0, _, hk⟩ := DataW.trod_int Tryd.underlying3 h0
  obtain ⟨s, e1, rfl, _⟩ := DataW.trod_string Tryd.underlying9 h1
  have hs := wok_str z1
  obtain ⟨n, e2, _, hn⟩ := DataW.trod_int Tryd.underlying2 h2
  injection e0 with e0 _
  injection e1 with e1 _
  injection e2 with e2 _
  subst e0 e1 e2
  exact ⟨⟨k, s, n⟩, rfl, wf64_of hk, hs, wf64_of hn⟩
theorem vls_open {fuel : Nat} {v : Value} {x : DataW H × List MemPlace} (h : DataW.trod enc Tryd.prog W 0 spare held fuel 26 [v] = some x) (hz : WOk Tryd.prog 26 x.1) : ∃ l : List Vl, SlAt W v l.length fun b o => VlIn W l b o := by
  obtain ⟨v', len, ao, cap, e, rfl, hm, hc, hp, hel⟩ := sl_open hz (of_decide_eq_true (by kernel_rfl)) cellsVal (by omega) Tryd.underlying26 h
  injection e with e _
  subst e
  rcases Nat.eq_zero_or_pos len with rfl | hpos
  · exact ⟨[], Nat.zero_le _, ao, cap, rfl, hc, fun h => absurd h (Nat.lt_irrefl _)⟩
  obtain ⟨b, o, rfl, hb⟩ := hp hpos
  obtain ⟨n, _, hi⟩ := hel b o rfl
  obtain ⟨l, g1, g2⟩ := list_of (len := len) (Q := fun i (x : Vl) => W.cell? ⟨b, o + i * 3, none⟩ = some (.int .i64 x.k) ∧ W.cell? ⟨b, o + i * 3 + 1, none⟩ = some (.string x.s) ∧ W.cell? ⟨b, o + i * 3 + 2, none⟩ = some (.int .i64 x.n) ∧ wf64 x.k ∧ x.s.size ≤ reach ∧ wf64 x.n) fun i hil => by
    obtain ⟨cs', y, c1, c2, c3, hz'⟩ := hi i hil
    obtain ⟨t, rfl, ht⟩ := vl_cells c3 hz'
    exact ⟨t, c2 0 (by omega), c2 1 (by omega), c2 2 (by omega), ht⟩
  exact ⟨l, by rw [g1]; exact hm, some ⟨b, o, none⟩, cap, by rw [g1], hc, fun _ => ⟨b, o, rfl, hb, g2⟩⟩
/-- A step's nine cells. -/
def StCs (w : World) (op : Int) (to nm : ByteArray) (t : Tg) (vals : List Vl) (alts : St) (n : Int) (cs : List Value) : Prop :=
  wf64 op ∧ to.size ≤ reach ∧ nm.size ≤ reach ∧ wf64 t.k ∧ t.s.size ≤ reach ∧ wf64 t.n ∧ wf64 n ∧ alts.wf false ∧ ∃ v v', cs = [.int .i64 op, .string to, .string nm, .int .i64 t.k, .string t.s, .int .i64 t.n, v, v', .int .i64 n] ∧ (SlAt w v vals.length fun b o => VlIn w vals b o) ∧ SlAt w v' alts.len fun b o => StIn w alts b o 0
/-- A branch's six cells. -/
def BrCs (w : World) (take : Int) (t : Tg) (n : Int) (steps : St) (cs : List Value) : Prop :=
  wf64 take ∧ wf64 t.k ∧ t.s.size ≤ reach ∧ wf64 t.n ∧ wf64 n ∧ steps.wf true ∧ ∃ v, cs = [.int .i64 take, .int .i64 t.k, .string t.s, .int .i64 t.n, .int .i64 n, v] ∧ SlAt w v steps.len fun b o => StIn w steps b o 0
theorem stl_of {n : Nat} (IH : ∀ (cs : List Value) (x : DataW H × List MemPlace), DataW.trod enc Tryd.prog W 0 spare held n 29 cs = some x → WOk Tryd.prog 29 x.1 → ∃ op to nm t vals alts k, StCs W op to nm t vals alts k cs)
    {v : Value} {x : DataW H × List MemPlace} (h : DataW.trod enc Tryd.prog W 0 spare held (n + 1) 32 [v] = some x) (hz : WOk Tryd.prog 32 x.1) : ∃ f : St, f.wf true ∧ SlAt W v f.len fun b o => StIn W f b o 0 := by
  obtain ⟨v', len, ao, cap, e, rfl, hm, hc, hp, hel⟩ := sl_open hz (of_decide_eq_true (by kernel_rfl)) cellsStep (by omega) Tryd.underlying32 h
  injection e with e _
  subst e
  rcases Nat.eq_zero_or_pos len with rfl | hpos
  · exact ⟨.nil, trivial, Nat.zero_le _, ao, cap, rfl, hc, fun h => absurd h (Nat.lt_irrefl _)⟩
  obtain ⟨b, o, rfl, hb⟩ := hp hpos
  obtain ⟨n', hn', hi⟩ := hel b o rfl
  obtain rfl : n = n' := by omega
  have key : ∀ k m, m + k = len → ∃ f : St, f.len = k ∧ f.wf true ∧ StIn W f b o m := by
    intro k
    induction k with
    | zero => intro m _; exact ⟨.nil, rfl, trivial, trivial⟩
    | succ k ih =>
      intro m hmk
      obtain ⟨f, g1, gw, g2⟩ := ih (m + 1) (by omega)
      obtain ⟨cs', y, c1, c2, c3, hz'⟩ := hi m (by omega)
      obtain ⟨op, to, nm, t, vals, alts, q, k1, k2, k3, k4, k5, k6, k7, k8, u, u', rfl, s1, s2⟩ := IH cs' y c3 hz'
      exact ⟨.step op to nm t vals alts q f, by simp only [St.len, g1], ⟨rfl, k8, gw⟩, ⟨c2 0 (by omega), c2 1 (by omega), c2 2 (by omega), ⟨c2 3 (by omega), c2 4 (by omega), c2 5 (by omega), k4, k5, k6⟩, k1, k2, k3, k7, ⟨u, c2 6 (by omega), s1⟩, ⟨u', c2 7 (by omega), s2⟩, c2 8 (by omega)⟩, g2⟩
  obtain ⟨f, g1, gw, g2⟩ := key len 0 (by omega)
  exact ⟨f, gw, by rw [g1]; exact hm, some ⟨b, o, none⟩, cap, by rw [g1], hc, fun _ => ⟨b, o, rfl, hb, g2⟩⟩
theorem brl_of {n : Nat} (IH : ∀ (cs : List Value) (x : DataW H × List MemPlace), DataW.trod enc Tryd.prog W 0 spare held n 63 cs = some x → WOk Tryd.prog 63 x.1 → ∃ take t k steps, BrCs W take t k steps cs)
    {v : Value} {x : DataW H × List MemPlace} (h : DataW.trod enc Tryd.prog W 0 spare held (n + 1) 27 [v] = some x) (hz : WOk Tryd.prog 27 x.1) : ∃ f : St, f.wf false ∧ SlAt W v f.len fun b o => StIn W f b o 0 := by
  obtain ⟨v', len, ao, cap, e, rfl, hm, hc, hp, hel⟩ := sl_open hz (of_decide_eq_true (by kernel_rfl)) cellsBr (by omega) Tryd.underlying27 h
  injection e with e _
  subst e
  rcases Nat.eq_zero_or_pos len with rfl | hpos
  · exact ⟨.nil, trivial, Nat.zero_le _, ao, cap, rfl, hc, fun h => absurd h (Nat.lt_irrefl _)⟩
  obtain ⟨b, o, rfl, hb⟩ := hp hpos
  obtain ⟨n', hn', hi⟩ := hel b o rfl
  obtain rfl : n = n' := by omega
  have key : ∀ k m, m + k = len → ∃ f : St, f.len = k ∧ f.wf false ∧ StIn W f b o m := by
    intro k
    induction k with
    | zero => intro m _; exact ⟨.nil, rfl, trivial, trivial⟩
    | succ k ih =>
      intro m hmk
      obtain ⟨f, g1, gw, g2⟩ := ih (m + 1) (by omega)
      obtain ⟨cs', y, c1, c2, c3, hz'⟩ := hi m (by omega)
      obtain ⟨take, t, q, steps, k1, k2, k3, k4, k5, k6, u, rfl, s1⟩ := IH cs' y c3 hz'
      exact ⟨.br take t q steps f, by simp only [St.len, g1], ⟨rfl, k6, gw⟩, ⟨c2 0 (by omega), ⟨c2 1 (by omega), c2 2 (by omega), c2 3 (by omega), k2, k3, k4⟩, c2 4 (by omega), k1, k5, ⟨u, c2 5 (by omega), s1⟩⟩, g2⟩
  obtain ⟨f, g1, gw, g2⟩ := key len 0 (by omega)
  exact ⟨f, gw, by rw [g1]; exact hm, some ⟨b, o, none⟩, cap, by rw [g1], hc, fun _ => ⟨b, o, rfl, hb, g2⟩⟩
theorem st_open : ∀ (n : Nat), (∀ (cs : List Value) (x : DataW H × List MemPlace), DataW.trod enc Tryd.prog W 0 spare held n 29 cs = some x → WOk Tryd.prog 29 x.1 → ∃ op to nm t vals alts k, StCs W op to nm t vals alts k cs) ∧
    (∀ (cs : List Value) (x : DataW H × List MemPlace), DataW.trod enc Tryd.prog W 0 spare held n 63 cs = some x → WOk Tryd.prog 63 x.1 → ∃ take t k steps, BrCs W take t k steps cs) := by
  intro n
  induction n using Nat.strongRecOn with
  | ind n IH =>
    refine ⟨fun cs x h hz => ?_, fun cs x h hz => ?_⟩
    · obtain ⟨m, rfl, hl, hf⟩ := fields_at hz Tryd.underlying29 h
      rw [cellsStep] at hl
      obtain ⟨c0, c1, c2, c3, c4, c5, c6, c7, c8, rfl⟩ := nine_of hl
      obtain ⟨y0, h0, z0⟩ := hf 0 _ rfl 3 0 1 rfl rfl cellsI
      obtain ⟨y1, h1, z1⟩ := hf 1 _ rfl 9 1 1 rfl rfl cellsStr
      obtain ⟨y2, h2, z2⟩ := hf 2 _ rfl 9 2 1 rfl rfl cellsStr
      obtain ⟨y3, h3, z3⟩ := hf 3 _ rfl 25 3 3 rfl rfl cellsTag
      obtain ⟨y4, h4, z4⟩ := hf 4 _ rfl 26 6 1 rfl rfl cellsLV
      obtain ⟨y5, h5, z5⟩ := hf 5 _ rfl 27 7 1 rfl rfl cellsLB
      obtain ⟨y6, h6, z6⟩ := hf 6 _ rfl 2 8 1 rfl rfl cellsI64
      simp only [List.drop_zero, List.drop_succ_cons, List.take_succ_cons, List.take_zero] at h0 h1 h2 h3 h4 h5 h6
      obtain ⟨op, e, _, w0⟩ := DataW.trod_int Tryd.underlying3 h0
      injection e with e _
      subst e
      obtain ⟨s, e, rfl, _⟩ := DataW.trod_string Tryd.underlying9 h1
      have hs := wok_str z1
      injection e with e _
      subst e
      obtain ⟨s2, e, rfl, _⟩ := DataW.trod_string Tryd.underlying9 h2
      have hs2 := wok_str z2
      injection e with e _
      subst e
      obtain ⟨t, e, t1, t2, t3⟩ := tg_cells h3 z3
      simp only [encT, List.cons.injEq, and_true] at e
      obtain ⟨e1, e2, e3⟩ := e
      subst e1 e2 e3
      obtain ⟨vals, gv⟩ := vls_open h4 z4
      obtain ⟨k, e, _, w6⟩ := DataW.trod_int Tryd.underlying2 h6
      injection e with e _
      subst e
      cases m with
      | zero => simp [DataW.trod] at h1
      | succ m =>
        obtain ⟨f, f1, f2⟩ := brl_of (IH m (by omega)).2 h5 z5
        exact ⟨op, s, s2, t, vals, f, k, wf64_of w0, hs, hs2, t1, t2, t3, wf64_of w6, f1, c6, c7, rfl, gv, f2⟩
    · obtain ⟨m, rfl, hl, hf⟩ := fields_at hz Tryd.underlying63 h
      rw [cellsBr] at hl
      obtain ⟨c0, c1, c2, c3, c4, c5, rfl⟩ := six_of hl
      obtain ⟨y0, h0, z0⟩ := hf 0 _ rfl 3 0 1 rfl rfl cellsI
      obtain ⟨y1, h1, z1⟩ := hf 1 _ rfl 25 1 3 rfl rfl cellsTag
      obtain ⟨y2, h2, z2⟩ := hf 2 _ rfl 2 4 1 rfl rfl cellsI64
      obtain ⟨y3, h3, z3⟩ := hf 3 _ rfl 32 5 1 rfl rfl cellsLS
      simp only [List.drop_zero, List.drop_succ_cons, List.take_succ_cons, List.take_zero] at h0 h1 h2 h3
      obtain ⟨take, e, _, w0⟩ := DataW.trod_int Tryd.underlying3 h0
      injection e with e _
      subst e
      obtain ⟨t, e, t1, t2, t3⟩ := tg_cells h1 z1
      simp only [encT, List.cons.injEq, and_true] at e
      obtain ⟨e1, e2, e3⟩ := e
      subst e1 e2 e3
      obtain ⟨k, e, _, w2⟩ := DataW.trod_int Tryd.underlying2 h2
      injection e with e _
      subst e
      cases m with
      | zero => simp [DataW.trod] at h0
      | succ m =>
        obtain ⟨f, f1, f2⟩ := stl_of (IH m (by omega)).1 h3 z3
        exact ⟨take, t, k, f, wf64_of w0, t1, t2, t3, wf64_of w2, f1, c5, rfl, f2⟩
theorem stl_open {fuel : Nat} {v : Value} {x : DataW H × List MemPlace} (h : DataW.trod enc Tryd.prog W 0 spare held fuel 32 [v] = some x) (hz : WOk Tryd.prog 32 x.1) : ∃ f : St, f.wf true ∧ SlAt W v f.len fun b o => StIn W f b o 0 := by
  cases fuel with
  | zero => simp [DataW.trod] at h
  | succ n => exact stl_of (st_open n).1 h hz
theorem fns_open {v : Value} {d : DataW H} {p : List MemPlace} (h : DataW.Trod enc Tryd.prog W 0 spare held 38 v d p) (hz : WOk Tryd.prog 38 d) (hv : ∃ a n c, v = .slice a n c) : ∃ l : List Fn, SlAt W v l.length fun b o => FnIn W l b o := by
  obtain ⟨a0, n0, c0, rfl⟩ := hv
  obtain ⟨fuel, h⟩ := h
  obtain ⟨v', len, ao, cap, e, e2, hm, hc, hp, hel⟩ := sl_open hz (of_decide_eq_true (by kernel_rfl)) cellsFn (by omega) Tryd.underlying38 h
  simp only [Value.cells, List.cons.injEq, and_true] at e
  rw [← e] at e2
  rw [e2]
  rcases Nat.eq_zero_or_pos len with rfl | hpos
  · exact ⟨[], Nat.zero_le _, ao, cap, rfl, hc, fun h => absurd h (Nat.lt_irrefl _)⟩
  obtain ⟨b, o, rfl, hb⟩ := hp hpos
  obtain ⟨n, _, hi⟩ := hel b o rfl
  obtain ⟨l, g1, g2⟩ := list_of (len := len) (Q := fun i (x : Fn) => W.cell? ⟨b, o + i * 3, none⟩ = some (.string x.nm) ∧ x.nm.size ≤ reach ∧ (∃ v, W.cell? ⟨b, o + i * 3 + 1, none⟩ = some v ∧ SlAt W v x.params.length fun b o => TxIn W x.params b o) ∧ ∃ v, W.cell? ⟨b, o + i * 3 + 2, none⟩ = some v ∧ x.steps.wf true ∧ SlAt W v x.steps.len fun b o => StIn W x.steps b o 0) fun i hil => by
    obtain ⟨cs', y, c1, c2, c3, hz'⟩ := hi i hil
    obtain ⟨m, rfl, hl, hf⟩ := fields_at hz' Tryd.underlying42 c3
    rw [cellsFn] at hl
    obtain ⟨d0, d1, d2, rfl⟩ := three_of hl
    obtain ⟨y0, h0, z0⟩ := hf 0 _ rfl 9 0 1 rfl rfl cellsStr
    obtain ⟨y1, h1, z1⟩ := hf 1 _ rfl 40 1 1 rfl rfl cellsLT
    obtain ⟨y2, h2, z2⟩ := hf 2 _ rfl 32 2 1 rfl rfl cellsLS
    simp only [List.drop_zero, List.drop_succ_cons, List.take_succ_cons, List.take_zero] at h0 h1 h2
    obtain ⟨s, e, rfl, _⟩ := DataW.trod_string Tryd.underlying9 h0
    have hs := wok_str z0
    injection e with e _
    subst e
    obtain ⟨ps, gp⟩ := tx_open h1 z1
    obtain ⟨f, f1, f2⟩ := stl_open h2 z2
    exact ⟨⟨s, ps, f⟩, c2 0 (by omega), hs, ⟨d1, c2 1 (by omega), gp⟩, ⟨d2, c2 2 (by omega), f1, f2⟩⟩
  exact ⟨l, by rw [g1]; exact hm, some ⟨b, o, none⟩, cap, by rw [g1], hc, fun _ => ⟨b, o, rfl, hb, g2⟩⟩
end
end Go.Proofs.YtoidogfnjpmceaaDoor
