/- Programs that came in: what is read of them, as plain data. No conditions. -/
import Derived.Test.YtledjcplbldokaaGreatDoorProgAt
namespace Go.Proofs.YtledjcplbldokaaGreatDoor
open Go.ChangeShapes Go.WideShapes Go.ChangeAt Go.RowKit

/-- Constructors: a name, types. Data: a name, parameters, constructors. Definitions: a name, parameters, a body (one expression). -/
abbrev Co := ByteArray × Ty
abbrev Da := ByteArray × List ByteArray × List Co
abbrev De := ByteArray × List ByteArray × Ex
def CoIn (w : World) (l : List Co) (b o : Nat) : Prop := ∀ i (h : i < l.length), w.cell? ⟨b, o + i * 2, none⟩ = some (.string l[i].1) ∧ l[i].1.size ≤ reach ∧ ∃ v, w.cell? ⟨b, o + i * 2 + 1, none⟩ = some v ∧ SlAt w v l[i].2.len fun b o => TyIn w l[i].2 b o 0
def DaIn (w : World) (l : List Da) (b o : Nat) : Prop := ∀ i (h : i < l.length), w.cell? ⟨b, o + i * 3, none⟩ = some (.string l[i].1) ∧ l[i].1.size ≤ reach ∧
  (∃ v, w.cell? ⟨b, o + i * 3 + 1, none⟩ = some v ∧ SlAt w v l[i].2.1.length fun b o => TxIn w l[i].2.1 b o) ∧ ∃ v, w.cell? ⟨b, o + i * 3 + 2, none⟩ = some v ∧ SlAt w v l[i].2.2.length fun b o => CoIn w l[i].2.2 b o
def DeIn (w : World) (l : List De) (b o : Nat) : Prop := ∀ i (h : i < l.length), w.cell? ⟨b, o + i * 8, none⟩ = some (.string l[i].1) ∧ l[i].1.size ≤ reach ∧
  (∃ v, w.cell? ⟨b, o + i * 8 + 1, none⟩ = some v ∧ SlAt w v l[i].2.1.length fun b o => TxIn w l[i].2.1 b o) ∧ l[i].2.2.wf true ∧ l[i].2.2.len = 1 ∧ ExIn w l[i].2.2 b (o + i * 8 + 2) 0
/-- A program as a value. -/
def PrV (w : World) (ds : List Da) (fs : List De) (v : Value) : Prop := ∃ v1 v2, v = .agg #[v1, v2] ∧ (SlAt w v1 ds.length fun b o => DaIn w ds b o) ∧ SlAt w v2 fs.length fun b o => DeIn w fs b o

theorem CoIn.below {w w' : World} (hb : Below w.heap.size w w') {l : List Co} {b o : Nat} (hlt : b < w.heap.size) (h : CoIn w l b o) : CoIn w' l b o := fun i hi => by
  obtain ⟨h1, h2, v, h3, h4⟩ := h i hi
  exact ⟨cell_keep hb hlt h1, h2, v, cell_keep hb hlt h3, h4.mono hb.size fun _ _ g1 g2 => TyIn.below hb g1 g2⟩
theorem DaIn.below {w w' : World} (hb : Below w.heap.size w w') {l : List Da} {b o : Nat} (hlt : b < w.heap.size) (h : DaIn w l b o) : DaIn w' l b o := fun i hi => by
  obtain ⟨h1, h2, ⟨v, h3, h4⟩, u, h5, h6⟩ := h i hi
  exact ⟨cell_keep hb hlt h1, h2, ⟨v, cell_keep hb hlt h3, h4.mono hb.size fun _ _ g1 g2 => TxIn.below hb g1 g2⟩, u, cell_keep hb hlt h5, h6.mono hb.size fun _ _ g1 g2 => CoIn.below hb g1 g2⟩
theorem DeIn.below {w w' : World} (hb : Below w.heap.size w w') {l : List De} {b o : Nat} (hlt : b < w.heap.size) (h : DeIn w l b o) : DeIn w' l b o := fun i hi => by
  obtain ⟨h1, h2, ⟨v, h3, h4⟩, h5, h6, h7⟩ := h i hi
  exact ⟨cell_keep hb hlt h1, h2, ⟨v, cell_keep hb hlt h3, h4.mono hb.size fun _ _ g1 g2 => TxIn.below hb g1 g2⟩, h5, h6, ExIn.below hb hlt h7⟩
theorem PrV.below {w w' : World} (hb : Below w.heap.size w w') {ds : List Da} {fs : List De} {v : Value} (h : PrV w ds fs v) : PrV w' ds fs v := by
  obtain ⟨v1, v2, e, h1, h2⟩ := h
  exact ⟨v1, v2, e, h1.mono hb.size fun _ _ g1 g2 => DaIn.below hb g1 g2, h2.mono hb.size fun _ _ g1 g2 => DeIn.below hb g1 g2⟩

section
variable {H : Type} {enc : TypeId × Value → H} {W : World} {spare : Nat → Bool} {held : Bool}
theorem cellsCons : Tryz.prog.cellsOf 48 = 2 := by kernel_rfl
theorem cellsData : Tryz.prog.cellsOf 45 = 3 := by kernel_rfl
theorem cellsDef : Tryz.prog.cellsOf 37 = 8 := by kernel_rfl
theorem cellsProg : Tryz.prog.cellsOf 25 = 2 := by kernel_rfl
theorem cellsL5 : Tryz.prog.cellsOf 43 = 1 := by kernel_rfl
theorem cellsL6 : Tryz.prog.cellsOf 22 = 1 := by kernel_rfl
theorem cellsL7 : Tryz.prog.cellsOf 23 = 1 := by kernel_rfl
theorem three_of {α : Type} {l : List α} (h : l.length = 3) : ∃ a b c, l = [a, b, c] := by
  match l, h with
  | [a, b, c], _ => exact ⟨a, b, c, rfl⟩
theorem eight_of {α : Type} {l : List α} (h : l.length = 8) : ∃ a b c d e f g i, l = [a, b, c, d, e, f, g, i] := by
  match l, h with
  | [a, b, c, d, e, f, g, i], _ => exact ⟨a, b, c, d, e, f, g, i, rfl⟩
/-- From each element to the list. -/
theorem list_of {α : Type} {len : Nat} {Q : Nat → α → Prop} (h : ∀ i, i < len → ∃ x, Q i x) : ∃ l : List α, l.length = len ∧ ∀ i (hi : i < l.length), Q i l[i] := by
  induction len generalizing Q with
  | zero => exact ⟨[], rfl, fun i hi => absurd hi (Nat.not_lt_zero _)⟩
  | succ n ih =>
    obtain ⟨x, hx⟩ := h 0 (by omega)
    obtain ⟨l, h1, h2⟩ := ih (Q := fun i y => Q (i + 1) y) fun i hi => h (i + 1) (by omega)
    refine ⟨x :: l, by rw [List.length_cons, h1], fun i hi => ?_⟩
    cases i with
    | zero => exact hx
    | succ i => exact h2 i (by simpa using hi)
theorem tyl_open {fuel : Nat} {v : Value} {x : DataW H × List MemPlace} (h : DataW.trod enc Tryz.prog W 0 spare held fuel 46 [v] = some x) (hz : WOk Tryz.prog 46 x.1) : ∃ f : Ty, SlAt W v f.len fun b o => TyIn W f b o 0 := by
  cases fuel with
  | zero => simp [DataW.trod] at h
  | succ n => exact tyl_of (ty_open n) h hz

theorem co_open {fuel : Nat} {v : Value} {x : DataW H × List MemPlace} (h : DataW.trod enc Tryz.prog W 0 spare held fuel 43 [v] = some x) (hz : WOk Tryz.prog 43 x.1) : ∃ l : List Co, SlAt W v l.length fun b o => CoIn W l b o := by
  obtain ⟨v', len, ao, cap, e, rfl, hm, hc, hp, hel⟩ := sl_open hz (of_decide_eq_true (by kernel_rfl)) cellsCons (by omega) Tryz.underlying43 h
  injection e with e _
  subst e
  rcases Nat.eq_zero_or_pos len with rfl | hpos
  · exact ⟨[], Nat.zero_le _, ao, cap, rfl, hc, fun h => absurd h (Nat.lt_irrefl _)⟩
  obtain ⟨b, o, rfl, hb⟩ := hp hpos
  obtain ⟨n, _, hi⟩ := hel b o rfl
  obtain ⟨l, g1, g2⟩ := list_of (len := len) (Q := fun i (x : Co) => W.cell? ⟨b, o + i * 2, none⟩ = some (.string x.1) ∧ x.1.size ≤ reach ∧ ∃ v, W.cell? ⟨b, o + i * 2 + 1, none⟩ = some v ∧ SlAt W v x.2.len fun b o => TyIn W x.2 b o 0) fun i hil => by
    obtain ⟨cs', y, c1, c2, c3, hz'⟩ := hi i hil
    obtain ⟨m, rfl, hl, hf⟩ := fields_at hz' Tryz.underlying48 c3
    rw [cellsCons] at hl
    obtain ⟨d0, d1, rfl⟩ := two_of hl
    obtain ⟨y0, h0, z0⟩ := hf 0 _ rfl 9 0 1 rfl rfl cellsStr
    obtain ⟨y1, h1, z1⟩ := hf 1 _ rfl 46 1 1 rfl rfl cellsL2
    simp only [List.drop_zero, List.drop_succ_cons, List.take_succ_cons, List.take_zero] at h0 h1
    obtain ⟨s, e, rfl, _⟩ := DataW.trod_string Tryz.underlying9 h0
    have hs := wok_str z0
    injection e with e _
    subst e
    obtain ⟨f, g⟩ := tyl_open h1 z1
    exact ⟨(s, f), c2 0 (by omega), hs, d1, c2 1 (by omega), g⟩
  exact ⟨l, by rw [g1]; exact hm, some ⟨b, o, none⟩, cap, by rw [g1], hc, fun _ => ⟨b, o, rfl, hb, g2⟩⟩
theorem da_open {fuel : Nat} {v : Value} {x : DataW H × List MemPlace} (h : DataW.trod enc Tryz.prog W 0 spare held fuel 22 [v] = some x) (hz : WOk Tryz.prog 22 x.1) : ∃ l : List Da, SlAt W v l.length fun b o => DaIn W l b o := by
  obtain ⟨v', len, ao, cap, e, rfl, hm, hc, hp, hel⟩ := sl_open hz (of_decide_eq_true (by kernel_rfl)) cellsData (by omega) Tryz.underlying22 h
  injection e with e _
  subst e
  rcases Nat.eq_zero_or_pos len with rfl | hpos
  · exact ⟨[], Nat.zero_le _, ao, cap, rfl, hc, fun h => absurd h (Nat.lt_irrefl _)⟩
  obtain ⟨b, o, rfl, hb⟩ := hp hpos
  obtain ⟨n, _, hi⟩ := hel b o rfl
  obtain ⟨l, g1, g2⟩ := list_of (len := len) (Q := fun i (x : Da) => W.cell? ⟨b, o + i * 3, none⟩ = some (.string x.1) ∧ x.1.size ≤ reach ∧ (∃ v, W.cell? ⟨b, o + i * 3 + 1, none⟩ = some v ∧ SlAt W v x.2.1.length fun b o => TxIn W x.2.1 b o) ∧ ∃ v, W.cell? ⟨b, o + i * 3 + 2, none⟩ = some v ∧ SlAt W v x.2.2.length fun b o => CoIn W x.2.2 b o) fun i hil => by
    obtain ⟨cs', y, c1, c2, c3, hz'⟩ := hi i hil
    obtain ⟨m, rfl, hl, hf⟩ := fields_at hz' Tryz.underlying45 c3
    rw [cellsData] at hl
    obtain ⟨d0, d1, d2, rfl⟩ := three_of hl
    obtain ⟨y0, h0, z0⟩ := hf 0 _ rfl 9 0 1 rfl rfl cellsStr
    obtain ⟨y1, h1, z1⟩ := hf 1 _ rfl 31 1 1 rfl rfl cellsL1
    obtain ⟨y2, h2, z2⟩ := hf 2 _ rfl 43 2 1 rfl rfl cellsL5
    simp only [List.drop_zero, List.drop_succ_cons, List.take_succ_cons, List.take_zero] at h0 h1 h2
    obtain ⟨s, e, rfl, _⟩ := DataW.trod_string Tryz.underlying9 h0
    have hs := wok_str z0
    injection e with e _
    subst e
    obtain ⟨f, g⟩ := tx_open h1 z1
    obtain ⟨k, kk⟩ := co_open h2 z2
    exact ⟨(s, f, k), c2 0 (by omega), hs, ⟨d1, c2 1 (by omega), g⟩, d2, c2 2 (by omega), kk⟩
  exact ⟨l, by rw [g1]; exact hm, some ⟨b, o, none⟩, cap, by rw [g1], hc, fun _ => ⟨b, o, rfl, hb, g2⟩⟩
theorem de_open {fuel : Nat} {v : Value} {x : DataW H × List MemPlace} (h : DataW.trod enc Tryz.prog W 0 spare held fuel 23 [v] = some x) (hz : WOk Tryz.prog 23 x.1) : ∃ l : List De, SlAt W v l.length fun b o => DeIn W l b o := by
  obtain ⟨v', len, ao, cap, e, rfl, hm, hc, hp, hel⟩ := sl_open hz (of_decide_eq_true (by kernel_rfl)) cellsDef (by omega) Tryz.underlying23 h
  injection e with e _
  subst e
  rcases Nat.eq_zero_or_pos len with rfl | hpos
  · exact ⟨[], Nat.zero_le _, ao, cap, rfl, hc, fun h => absurd h (Nat.lt_irrefl _)⟩
  obtain ⟨b, o, rfl, hb⟩ := hp hpos
  obtain ⟨n, _, hi⟩ := hel b o rfl
  obtain ⟨l, g1, g2⟩ := list_of (len := len) (Q := fun i (x : De) => W.cell? ⟨b, o + i * 8, none⟩ = some (.string x.1) ∧ x.1.size ≤ reach ∧ (∃ v, W.cell? ⟨b, o + i * 8 + 1, none⟩ = some v ∧ SlAt W v x.2.1.length fun b o => TxIn W x.2.1 b o) ∧ x.2.2.wf true ∧ x.2.2.len = 1 ∧ ExIn W x.2.2 b (o + i * 8 + 2) 0) fun i hil => by
    obtain ⟨cs', y, c1, c2, c3, hz'⟩ := hi i hil
    obtain ⟨m, rfl, hl, hf⟩ := fields_at hz' Tryz.underlying37 c3
    rw [cellsDef] at hl
    obtain ⟨d0, d1, e0, e1, e2, e3, e4, e5, rfl⟩ := eight_of hl
    obtain ⟨y0, h0, z0⟩ := hf 0 _ rfl 9 0 1 rfl rfl cellsStr
    obtain ⟨y1, h1, z1⟩ := hf 1 _ rfl 31 1 1 rfl rfl cellsL1
    obtain ⟨y2, h2, z2⟩ := hf 2 _ rfl 35 2 6 rfl rfl cellsExpr
    simp only [List.drop_zero, List.drop_succ_cons, List.take_succ_cons, List.take_zero] at h0 h1 h2
    obtain ⟨s, e, rfl, _⟩ := DataW.trod_string Tryz.underlying9 h0
    have hs := wok_str z0
    injection e with e _
    subst e
    obtain ⟨f, g⟩ := tx_open h1 z1
    obtain ⟨op, nm, k, names, l, alts, he⟩ := (ex_open m).1 _ _ h2 z2
    refine ⟨(s, f, .expr op nm k names l alts .nil), c2 0 (by omega), hs, ⟨d1, c2 1 (by omega), g⟩, ⟨rfl, he.2.2.2.1, he.2.2.2.2.1, trivial⟩, rfl, exIn_of he (fun j hj => ?_) trivial⟩
    have := c2 (2 + j) (by omega)
    rw [show o + i * 8 + (2 + j) = o + i * 8 + 2 + 0 * 6 + j by omega] at this
    rw [this, show 2 + j = j + 1 + 1 by omega]
    rfl
  exact ⟨l, by rw [g1]; exact hm, some ⟨b, o, none⟩, cap, by rw [g1], hc, fun _ => ⟨b, o, rfl, hb, g2⟩⟩
/-- A program that came in. -/
theorem prog_open {v : Value} {d : DataW H} {p : List MemPlace} (h : DataW.Trod enc Tryz.prog W 0 spare held 25 v d p) (hz : WOk Tryz.prog 25 d) : ∃ ds fs, PrV W ds fs v := by
  obtain ⟨fuel, h⟩ := h
  obtain ⟨m, rfl, hl, hf⟩ := fields_at hz Tryz.underlying25 h
  rw [cellsProg] at hl
  have hv : ∃ v1 v2, v = .agg #[v1, v2] ∧ v.cells.toList = [v1, v2] := by
    cases v with
    | agg cs =>
      have hl' : cs.toList.length = 2 := hl
      obtain ⟨a, b, e⟩ := two_of hl'
      have : cs = #[a, b] := by rw [← Array.toList_inj]; exact e
      exact ⟨a, b, by rw [this], by rw [this]; rfl⟩
    | _ => exact absurd hl (by simp [Value.cells])
  obtain ⟨v1, v2, rfl, e⟩ := hv
  rw [e] at hf
  obtain ⟨y0, h0, z0⟩ := hf 0 _ rfl 22 0 1 rfl rfl cellsL6
  obtain ⟨y1, h1, z1⟩ := hf 1 _ rfl 23 1 1 rfl rfl cellsL7
  simp only [List.drop_zero, List.drop_succ_cons, List.take_succ_cons, List.take_zero] at h0 h1
  obtain ⟨ds, g1⟩ := da_open h0 z0
  obtain ⟨fs, g2⟩ := de_open h1 z1
  exact ⟨ds, fs, v1, v2, rfl, g1, g2⟩
end
end Go.Proofs.YtledjcplbldokaaGreatDoor
