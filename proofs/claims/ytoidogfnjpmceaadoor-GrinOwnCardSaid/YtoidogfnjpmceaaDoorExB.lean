/- A checked runner of calls that are closed: what a run says of its call holds in every memory, on every schedule (part 2 of 4). No conditions of its own. -/
import Derived.Test.YtoidogfnjpmceaaDoorExA
import Derived.LaidEql
import Derived.Laws.BytesString
import Derived.Laws.Append
import Derived.Lib.AppendZeros
import Derived.Tactics
import Derived.LoopN
import Derived.Scope
import Derived.LoopNIn
import Derived.TacticsIn
import Derived.OrdersIn
import Derived.RangeFuncLeaves
import Derived.RangeFuncOwn
import Derived.Defers
import Derived.DefersIn
namespace Go.Ex
variable {sy : Nat → Value} {ρ : Env} {P : Program}

/-- a new row, as it comes to lie in memory -/
structure NewAt (sy : Nat → Value) (ρ : Env) (n : Nat) (row : Row) (pl : Pl) (w w' : World) : Prop where
  fam : row.fam = 0
  each : ∀ ch ∈ row.cs, ch.length = row.sz
  sz : pl.sz = row.sz
  exact : pl.exact = row.exact
  blk : pl.blk = w.heap.size
  mem : ∃ arr el lo hi, w'.heap = w.heap.push (.cells arr el (lo, hi)) ∧ arr.size = pl.size ∧ (∀ o, o < pl.size → ¬ (lo ≤ o ∧ o < hi)) ∧ (row.exact = true → ∀ o, ¬ (lo ≤ o ∧ o < hi)) ∧
    ∀ j c, cellAt row j = some c → ∃ v, arr[pl.base + j]? = some v ∧ V sy (Env.set ρ n pl) c v ∧ Flat v
  os : w'.os = w.os
  tape : w'.tape = w.tape
  output : w'.output = w.output
  typ : ∀ arr el k, w'.heap = w.heap.push (.cells arr el k) → row.ty = 0 ∨ (row.ty = el + 1 ∧ el < 1000000) ∧ pl.base = 0 ∧ (row.exact = true → pl.size = row.sz)
def NewOk (sy : Nat → Value) (P : Program) (op : Op) (f : NO) : Prop :=
  ∀ (ρ : Env) (tm : T AV) (a : Act) (n : Nat) (v : AV) (row : Row) (o : Oper), o.op = op → Glob ρ → TM sy ρ tm a → f P tm n = some (v, row) → ρ n = none →
    ∀ w, ∃ u w' pl, (execOp a.eval o).run P w = .ok (.value u) w' ∧ NewAt sy ρ n row pl w w' ∧ V sy (Env.set ρ n pl) v u

theorem push_el {h : Array Obj} {a b : Array Value} {e f : TypeId} {k l : Nat × Nat} (q : h.push (.cells a e k) = h.push (.cells b f l)) : e = f := by
  have := (Array.push_inj_right (xs := h)).1 q
  simp at this
  exact this.2.1
theorem tyN_or (e : Nat) : tyN e = 0 ∨ tyN e = e + 1 ∧ e < 1000000 := by
  unfold tyN
  rw [bi_eq]
  split
  · rename_i h; exact .inr ⟨rfl, by simpa using h⟩
  · exact .inl rfl
theorem rowV_new {n : Nat} {l : List AV} {u : Value} {w : World} {el : TypeId} (hρ : ρ n = none) (hl : VL sy ρ l u.cells.toList) (hf : ∀ z ∈ u.cells.toList, Flat z) :
    NewAt sy ρ n (rowV n el l).2 ⟨w.heap.size, 0, l.length, true, l.length⟩ w { w with heap := w.heap.push (.cells u.cells el) } := by
  have hm := Env.set_mono (ρ := ρ) (pl := ⟨w.heap.size, 0, l.length, true, l.length⟩) hρ
  have hlen : u.cells.size = l.length := by rw [← hl.length]; simp
  have heach : ∀ ch ∈ [l], ch.length = lenL l := fun ch hc => by simp at hc; subst hc; rw [lenL_eq]
  refine ⟨rfl, heach, (lenL_eq l).symm, rfl, rfl, ⟨u.cells, el, 0, 0, rfl, hlen, fun o _ h => by omega, fun _ o h => by omega, fun j c hc => ?_⟩, rfl, rfl, rfl, fun arr el' k h => ?_⟩
  case refine_2 =>
    obtain rfl := push_el h
    exact (tyN_or el).imp id fun q => ⟨q, rfl, fun _ => (lenL_eq l).symm⟩
  have hc' : cellAt ⟨0, true, lenL l, [l], tyN el⟩ j = some c := hc
  rw [cellAt_flat heach] at hc'
  simp at hc'
  obtain ⟨v, k1, k2⟩ := hl.get hc'
  refine ⟨v, by simpa using k1, k2.mono hm, hf v (List.mem_of_getElem? k1)⟩
theorem aAlloc_ok (e : TypeId) : NewOk sy P (.alloc e) (aAlloc e) := by
  intro ρ tm a n v row o ho hg ht h hρ w
  simp only [aAlloc, ob_some] at h
  obtain ⟨z, h1, l, h2, h3⟩ := h
  simp only [Option.some.injEq] at h3
  obtain ⟨u, k1, k2⟩ := zero_run h1
  obtain ⟨q1, q2⟩ := (conv_V (sy := sy) (ρ := ρ) k2).cells h2
  have hv : v = (rowV n e l).1 := by rw [h3]
  have hr : row = (rowV n e l).2 := by rw [h3]
  subst hv hr
  exact ⟨.pointer (some ⟨w.heap.size, 0, none⟩), w.alloc (.cells u.cells e), _, by simp [execOp, ho, Instr.alloc, k1 w, newVar, newRow], rowV_new (el := e) hρ q1 q2, _, Env.set_same, by simp⟩
theorem aBox_ok (e : TypeId) (x : Operand) : NewOk sy P (.box e x) (aBox e x) := by
  intro ρ tm a n v row o ho hg ht h hρ w
  simp only [aBox, ob_some] at h
  obtain ⟨z, h1, l, h2, h3⟩ := h
  simp only [Option.some.injEq] at h3
  obtain ⟨q1, q2⟩ := (ev_V hg ht h1).cells h2
  have hv : v = (rowV n e l).1 := by rw [h3]
  have hr : row = (rowV n e l).2 := by rw [h3]
  subst hv hr
  exact ⟨.pointer (some ⟨w.heap.size, 0, none⟩), w.alloc (.cells (a.eval x).cells e), _, by simp [execOp, ho, Instr.box, newVar, newRow], rowV_new (el := e) hρ q1 q2, _, Env.set_same, by simp⟩

/-- a new slice, whole -/
theorem slice_new {n len z : Nat} {cs : List (List AV)} {vs : List Value} {w : World} {el : TypeId} (hρ : ρ n = none) (hc : Ch sy ρ z cs len vs) :
    NewAt sy ρ n ⟨0, true, z, cs, 0⟩ ⟨w.heap.size, 0, len * z, true, z⟩ w { w with heap := w.heap.push (.cells vs.toArray el) } ∧
    V sy (Env.set ρ n ⟨w.heap.size, 0, len * z, true, z⟩) (.slc n 0 len len z) (.slice (some ⟨w.heap.size, 0, none⟩) len len) := by
  have hm := Env.set_mono (ρ := ρ) (pl := ⟨w.heap.size, 0, len * z, true, z⟩) hρ
  refine ⟨⟨rfl, hc.each, rfl, rfl, rfl, ⟨vs.toArray, el, 0, 0, rfl, by simp [hc.vlen], fun o _ h => by omega, fun _ o h => by omega, fun j c hj => ?_⟩, rfl, rfl, rfl, fun _ _ _ _ => .inl rfl⟩, ?_⟩
  · rw [cellAt_flat hc.each] at hj
    obtain ⟨v, k1, k2⟩ := hc.vals.get hj
    exact ⟨v, by simpa using k1, k2.mono hm, hc.flat v (List.mem_of_getElem? k1)⟩
  · exact ⟨_, len, 0, Env.set_same, ⟨Nat.le_refl _, Nat.le_refl _, fun _ => rfl, fun h => by simp at h⟩, fun _ => by simp, rfl⟩
theorem Ch.replicate {z : Nat} {l : List AV} {us : List Value} (hl : l.length = z) (h : VL sy ρ l us) (hf : ∀ u ∈ us, Flat u) : ∀ n, Ch sy ρ z (List.replicate n l) n (List.replicate n us).flatten
  | 0 => .nil
  | n + 1 => by
    have ih := Ch.replicate hl h hf n
    refine ⟨by simp, fun c hc => by rw [List.eq_of_mem_replicate hc]; exact hl, ?_, ?_⟩
    · rw [List.replicate_succ, List.replicate_succ, List.flatten_cons, List.flatten_cons]; exact h.append ih.vals
    · rw [List.replicate_succ, List.flatten_cons]
      intro v hv
      exact (List.mem_append.1 hv).elim (hf v) (ih.flat v)
theorem range_zero (zero : Array Value) (n : Nat) (hz : 0 < zero.size) : ((Array.range (n * zero.size)).map (zero[· % zero.size]!)).toList = (List.replicate n zero.toList).flatten := by
  have hlen : ((List.replicate n zero.toList).flatten).length = n * zero.size := by simp
  apply List.ext_getElem?
  intro k
  by_cases hk : k < n * zero.size
  · have e1 : ((Array.range (n * zero.size)).map (zero[· % zero.size]!)).toList[k]? = some (zero[k % zero.size]!) := by simp [hk]
    rw [e1]
    have : ∀ m j, j < m * zero.size → (List.replicate m zero.toList).flatten[j]? = zero.toList[j % zero.size]? := by
      intro m
      induction m with
      | zero => intro j hj; simp at hj
      | succ m ih =>
        intro j hj
        rw [List.replicate_succ, List.flatten_cons]
        by_cases h1 : j < zero.size
        · rw [List.getElem?_append_left (by simpa using h1), Nat.mod_eq_of_lt h1]
        · rw [List.getElem?_append_right (by simpa using h1), Array.length_toList, ih _ (by rw [Nat.succ_mul] at hj; omega), Nat.mod_eq_sub_mod (a := j) (by omega)]
    rw [this n k hk]
    have hm := Nat.mod_lt k hz
    simp [hm]
  · rw [List.getElem?_eq_none (by simp; omega), List.getElem?_eq_none (by rw [hlen]; omega)]
theorem flatten_set {z : Nat} : ∀ {cs : List (List AV)} {i : Nat} {c : List AV}, (∀ ch ∈ cs, ch.length = z) → i < cs.length → c.length = z →
    (cs.set i c).flatten = cs.flatten.take (i * z) ++ c ++ cs.flatten.drop (i * z + z)
  | [], i, c, _, hi, _ => by simp at hi
  | ch :: cs, 0, c, h, _, hc => by
    have hl := h ch List.mem_cons_self
    simp [hl]
    done
  | ch :: cs, i + 1, c, h, hi, hc => by
    have hl := h ch List.mem_cons_self
    have ih := flatten_set (cs := cs) (i := i) (c := c) (fun c hc => h c (List.mem_cons_of_mem _ hc)) (by simpa using hi) hc
    have e1 : (i + 1) * z = z + i * z := by rw [Nat.succ_mul, Nat.add_comm]
    have t1 : List.take (z + i * z) ch = ch := List.take_of_length_le (by omega)
    have t2 : z + i * z - z = i * z := by omega
    have d1 : List.drop (z + i * z + z) ch = [] := List.drop_eq_nil_of_le (by omega)
    have d2 : z + i * z + z - z = i * z + z := by omega
    rw [List.set_cons_succ, List.flatten_cons, ih, List.flatten_cons, e1, List.take_append, List.drop_append, hl, t1, t2, d1, d2]
    simp
/-- what a slice's parts make of it -/
theorem fillS_Y {tm : T AV} {a : Act} (hg : Glob ρ) (ht : TM sy ρ tm a) {z n : Nat} : ∀ {parts : List (Nat × Operand)} {cs ds : List (List AV)} {cells : Array Value},
    fillS z tm parts cs = some ds → Ch sy ρ z cs n cells.toList →
    ∃ c : Array Value, Instr.fill (fun i => some (i * z, z)) cells (parts.map fun x => (x.1, a.eval x.2)) = some c ∧ Ch sy ρ z ds n c.toList
  | [], cs, ds, cells, h, hc => by
    have h' : some cs = some ds := h
    simp at h'; subst h'
    exact ⟨cells, rfl, hc⟩
  | p :: parts, cs, ds, cells, h, hc => by
    have h' : (ob (ev p.2 tm) fun v => ob (cells? v) fun c => bi (Nat.beq (lenL c) z) (ob (setL cs p.1 c) (fillS z tm parts)) none) = some ds := h
    simp only [ob_some, bi_some] at h'
    obtain ⟨v, h2, c, h3, h4, cs', h5, h6⟩ := h'
    have h4' : c.length = z := by rw [lenL_eq] at h4; simpa using h4
    rw [setL_some] at h5
    obtain ⟨h7, rfl⟩ := h5
    obtain ⟨e1, e2⟩ := (ev_V hg ht h2).cells h3
    have e5 : (a.eval p.2).cells.size = z := by rw [← h4', ← e1.length]; simp
    have hn := hc.len
    have hsz : cells.size = n * z := by have := hc.vlen; simpa using this
    have hle : p.1 * z + z ≤ n * z := by rw [← Nat.succ_mul]; exact Nat.mul_le_mul_right z (by omega)
    have e6 := foldl_put (p.1 * z) (a.eval p.2).cells.toList cells (by simp [e5]; omega)
    have hch : Ch sy ρ z (cs.set p.1 c) n (((a.eval p.2).cells.toList.zipIdx 0).foldl (fun cs (x : Value × Nat) => cs.setIfInBounds (p.1 * z + x.2) x.1) cells).toList := by
      refine ⟨by simp [hn], fun ch hch => ?_, ?_, ?_⟩
      · rcases List.mem_or_eq_of_mem_set hch with q | q
        · exact hc.each ch q
        · rw [q]; exact h4'
      · rw [flatten_set hc.each h7 h4', e6]
        have := ((hc.vals.take (p.1 * z)).append e1).append (hc.vals.drop (p.1 * z + z))
        simpa [e5] using this
      · rw [e6]
        intro u hu
        simp only [List.mem_append] at hu
        rcases hu with (hu | hu) | hu
        · exact hc.flat u (List.mem_of_mem_take hu)
        · exact e2 u hu
        · exact hc.flat u (List.mem_of_mem_drop hu)
    obtain ⟨d, g1, g2⟩ := fillS_Y hg ht h6 hch
    refine ⟨d, ?_, g2⟩
    simp only [List.map_cons]
    unfold Instr.fill
    simp only [e5]
    rw [if_neg (by simp; omega)]
    rw [← g1]
    congr 1
    rw [← Array.foldl_toList, Array.toList_zipIdx]
theorem zeros_Ch {z n : Nat} {l : List AV} {u : Value} (hl : VL sy ρ l u.cells.toList) (hf : ∀ x ∈ u.cells.toList, Flat x) (hz : l.length = z) :
    Ch sy ρ z (List.replicate n l) n (if n * z = 0 then (#[] : Array Value) else (Array.range (n * z)).map (u.cells[· % u.cells.size]!)).toList := by
  have hs : u.cells.size = z := by rw [← hz, ← hl.length]; simp
  have := Ch.replicate (n := n) hz hl hf
  split
  · rename_i h0
    have hv := this.vlen
    rw [h0] at hv
    have e0 : (List.replicate n u.cells.toList).flatten = [] := List.eq_nil_of_length_eq_zero hv
    rw [e0] at this
    exact this
  · rename_i h0
    have hz0 : 0 < u.cells.size := by rw [hs]; exact Nat.pos_of_ne_zero (fun h => by rw [h] at h0; simp at h0)
    rw [← hs, range_zero _ _ hz0, hs]
    exact this
theorem aBuildSlice_ok (t : TypeId) (len : Nat) (parts : Array (Nat × Operand)) : NewOk sy P (.buildSlice t len parts) (aBuildSlice t len parts) := by
  intro ρ tm a n v row o ho hg ht h hρ w
  simp only [aBuildSlice, ob_some, bi_some] at h
  obtain ⟨e, h1, z, h2, zv, h3, zc, h4, h5, cs, h6, h7⟩ := h
  simp at h5 h7
  obtain ⟨rfl, rfl⟩ := h7
  obtain ⟨h8, h9⟩ := h5
  rw [lenL_eq] at h9
  obtain ⟨u, k1, k2⟩ := zero_run h3
  obtain ⟨q1, q2⟩ := (conv_V (sy := sy) (ρ := ρ) k2).cells h4
  rw [repL_eq] at h6
  obtain ⟨c, g1, g2⟩ := fillS_Y hg ht h6 (zeros_Ch (n := len) q1 q2 h9)
  obtain ⟨m1, m2⟩ := slice_new (w := w) (el := e) hρ g2
  have hle : ¬ (len * z > 2 ^ 24) := by omega
  refine ⟨_, _, _, ?_, m1, m2⟩
  have ht' := elem_und h1
  by_cases h0 : len * z = 0
  · rw [if_pos h0] at g1
    have e0 : (Array.map (fun (_ : Nat) => (default : Value)) (Array.range 0)) = #[] := Array.eq_empty_of_size_eq_zero (by simp)
    simp [execOp, ho, Instr.buildSlice, run_underlying ht', size_run h2, h0, newRow, e0, g1]
  · rw [if_neg h0] at g1
    have hle' : ¬ (16777216 < len * z) := by omega
    simp [execOp, ho, Instr.buildSlice, run_underlying ht', size_run h2, hle', h0, newRow, k1 w, g1]
theorem aMakeSlice_ok (t : TypeId) (l c : Operand) : NewOk sy P (.makeSlice t l c) (aMakeSlice t l c) := by
  intro ρ tm a n v row o ho hg ht h hρ w
  simp only [aMakeSlice, ob_some, bi_some] at h
  obtain ⟨e, h1, z, h2, zv, h3, zc, h4, lv, h5, m, h6, cv, h7, k, h8, b, h9, h10, h11⟩ := h
  simp at h10 h11
  obtain ⟨rfl, rfl⟩ := h11
  obtain ⟨⟨q1, q2⟩, q3, q4⟩ := h10
  rw [lenL_eq] at q4
  obtain ⟨u, k1, k2⟩ := zero_run h3
  obtain ⟨r1, r2⟩ := (conv_V (sy := sy) (ρ := ρ) k2).cells h4
  obtain ⟨k', el⟩ := asNat_V h6 (ev_V hg ht h5)
  obtain ⟨k'', ec⟩ := asNat_V h8 (ev_V hg ht h7)
  have hch := zeros_Ch (n := k) r1 r2 q4
  obtain ⟨X, hX⟩ : ∃ X : Array Value, X = (if k * z = 0 then (#[] : Array Value) else (Array.range (k * z)).map (u.cells[· % u.cells.size]!)) := ⟨_, rfl⟩
  rw [← hX] at hch
  rw [repL_eq]
  have ht' := elem_und h1
  obtain ⟨i, j1, j2⟩ := bytes_run h9
  have hw : ∀ x : Nat, x ≤ 1000000000 → IntKind.i64.wrap (x : Int) = x := by
    intro x hx
    unfold IntKind.wrap
    simp only [IntKind.bits, IntKind.signed]
    have e1 : (x : Int) % 2 ^ 64 = x := by omega
    have h : ¬ ((true && decide ((x : Int) % 2 ^ 64 ≥ 2 ^ (64 - 1))) = true) := by rw [e1]; simp; omega
    exact (if_neg h).trans e1
  have hw1 := hw m (by omega)
  have hw2 := hw k q3
  obtain ⟨m1, m2⟩ := slice_new (w := w) (el := e) hρ hch
  have hb : (i.bytes : Int) * (k : Int) ≤ 1000000000 := by
    rw [j2]
    have q2' : k * b ≤ 1000000000 := q2
    have : b * k ≤ 1000000000 := by rw [Nat.mul_comm]; exact q2'
    rw [← Int.natCast_mul]; omega
  have hb' : ¬ (281474976710656 < (i.bytes : Int) * (k : Int)) := by omega
  have hk0 : ¬ ((k : Int) < 0) := by omega
  have hm0 : ¬ ((m : Int) < 0) := by omega
  have hmk : ¬ ((k : Int) < (m : Int)) := by omega
  refine ⟨.slice (some ⟨w.heap.size, 0, none⟩) m k, _, _, ?_, m1, ?_⟩
  · rw [Array.toArray_toList]
    by_cases h0 : k * z = 0
    · have e0 : (Array.map (fun (_ : Nat) => (default : Value)) (Array.range 0)) = #[] := Array.eq_empty_of_size_eq_zero (by simp)
      rw [if_pos h0] at hX
      simp [execOp, ho, el, ec, Instr.makeSlice, run_underlying ht', asInt, asIntOf, typeInfo, j1, hw1, hw2, hb', hk0, hm0, hmk, size_run h2, h0, newRow, e0, hX]
    · rw [if_neg h0] at hX
      simp [execOp, ho, el, ec, Instr.makeSlice, run_underlying ht', asInt, asIntOf, typeInfo, j1, hw1, hw2, hb', hk0, hm0, hmk, size_run h2, h0, newRow, k1 w, hX]
  · exact ⟨_, k, 0, Env.set_same, ⟨q1, Nat.le_refl _, fun _ => rfl, fun h => by simp at h⟩, fun _ => by simp, rfl⟩

theorem bytesL_Ch : ∀ l : List UInt8, Ch sy ρ 1 (bytesL l.length (pack l)) l.length (l.map fun b => Value.int .u8 (b.toNat : Int))
  | [] => .nil
  | b :: l => by
    have ih := bytesL_Ch l
    have hb := b.toNat_lt
    have e : bytesL (b :: l).length (pack (b :: l)) = [.int .u8 (b.toNat : Int)] :: bytesL l.length (pack l) := by
      show [AV.int .u8 (Int.ofNat (Nat.mod (pack (b :: l)) 256))] :: bytesL l.length (Nat.div (pack (b :: l)) 256) = _
      have e1 : Nat.mod (pack (b :: l)) 256 = b.toNat := by show pack (b :: l) % 256 = _; rw [pack_cons]; omega
      have e2 : Nat.div (pack (b :: l)) 256 = pack l := by show pack (b :: l) / 256 = _; rw [pack_cons]; omega
      rw [e1, e2]; rfl
    rw [e]
    refine ⟨by simp [ih.len], fun c hc => ?_, ?_, fun v hv => ?_⟩
    · rcases List.mem_cons.1 hc with rfl | hc
      · rfl
      · exact ih.each c hc
    · exact ⟨_, _, rfl, rfl, ih.vals⟩
    · rcases List.mem_cons.1 hv with rfl | hv
      · trivial
      · exact ih.flat v hv
theorem freeze_push (w : World) (arr : Array Value) (e : TypeId) (t : Nat → Question → Nat) (d : Nat) (o : Os) (q : Array (Nat × ByteArray)) :
    ((⟨w.heap.push (.cells arr e), t, d, o, q⟩ : World).freeze ⟨w.heap.size, arr.size, none⟩ 1) = ⟨w.heap.push (.cells arr e (arr.size, arr.size + 1)), t, d, o, q⟩ := by
  unfold World.freeze
  simp only [Nat.one_ne_zero, if_false]
  congr 1
  apply Array.ext_getElem?
  intro i
  rw [Array.getElem?_modify]
  by_cases h : w.heap.size = i
  · subst h; simp
  · rw [if_neg h, Array.getElem?_push, Array.getElem?_push]; simp [Ne.symm h]
theorem cvToBytes_ok {s d e : TypeId} {x : Operand} (hs : P.underlying s = some .string) (hd : P.underlying d = some (.slice e)) : NewOk sy P (.convert s d x) (cvToBytes e x) := by
  intro ρ tm a n v row o ho hg ht h hρ w
  simp only [cvToBytes, ob_some] at h
  obtain ⟨y, h1, u8, h2, h3⟩ := h
  have hv := ev_V hg ht h1
  cases y <;> simp only [bi_some] at h3 <;> try (simp at h3; done)
  rename_i l b
  obtain ⟨h4, h5⟩ := h3
  simp at h5
  obtain ⟨rfl, rfl⟩ := h5
  simp only [u8?, ob_some] at h2
  obtain ⟨de, h6, h7⟩ := h2
  simp at h7
  rw [h4] at h7
  have hde : de = .int .u8 := by
    cases de <;> simp [isU8] at h7
    rename_i k; cases k <;> simp at h7 <;> rfl
  subst hde
  obtain ⟨str, e1, e2, e3⟩ := hv
  have hch := bytesL_Ch (sy := sy) (ρ := ρ) str.data.toList
  rw [e2, e3] at hch
  have hcap : ∃ c, str.size ≤ c ∧ (choose (.appendCap str.size 0 e)).run P w = .ok c w.drew := by
    refine ⟨(Question.appendCap str.size 0 e).cut (w.tape w.drawn (.appendCap str.size 0 e)), ?_, ?_⟩
    · simp [Question.cut]
    · rw [run_choose]; rfl
  obtain ⟨c, hc1, hc2⟩ := hcap
  have hl : str.size = l := by rw [Lib.size_eq, e2]
  obtain ⟨arr, harr⟩ : ∃ arr : Array Value, arr = (str.data.map fun b => Value.int .u8 (b.toNat : Int)) ++ Array.replicate (c - str.size) (.int .u8 0) := ⟨_, rfl⟩
  have hds : str.data.size = str.size := rfl
  have hsz : arr.size = c := by rw [harr]; simp [hds]; omega
  refine ⟨.slice (some ⟨w.heap.size, 0, none⟩) str.size c, ⟨w.heap.push (.cells arr e (arr.size, arr.size + 1)), w.tape, w.drawn + 1, w.os, w.output⟩, ⟨w.heap.size, 0, arr.size, false, 1⟩, ?_, ⟨rfl, hch.each, rfl, rfl, rfl, ⟨arr, e, _, _, rfl, rfl, fun o ho h => by
      have ho' : o < arr.size := ho
      omega, fun h => by simp at h, fun j q hj => ?_⟩, rfl, rfl, rfl, fun _ _ _ _ => .inl rfl⟩, ?_⟩
  · have hshape : (⟨w.heap.push (.cells arr e), w.tape, w.drawn + 1, w.os, w.output⟩ : World).shape? w.heap.size = some (e, arr.size) := by
      unfold World.shape?; simp
    have hfr := freeze_push w arr e w.tape (w.drawn + 1) w.os w.output
    have hrun : (Conv.stringToBytes e str).run P w = .ok (.slice (some ⟨w.heap.size, 0, none⟩) str.size c) ⟨w.heap.push (.cells arr e (arr.size, arr.size + 1)), w.tape, w.drawn + 1, w.os, w.output⟩ := by
      unfold Conv.stringToBytes
      simp only [Sem.run_bind, hc2, Result.andThen_ok, newRow, run_newObj, Sem.run_pure, ← harr, markStringish, run_shape]
      have e9 : (w.drew).heap = w.heap := rfl
      rw [e9]
      rw [show ({ w.drew with heap := w.heap.push (.cells arr e) } : World) = ⟨w.heap.push (.cells arr e), w.tape, w.drawn + 1, w.os, w.output⟩ from rfl, hshape]
      simp only [run_freeze, Result.andThen_ok]
      rw [hfr]
    simp only [execOp, ho, e1, convert, Sem.run_bind, run_underlying hs, run_underlying hd, run_underlying h6, Result.andThen_ok, hrun, Sem.run_pure]
  · have hm := Env.set_mono (ρ := ρ) (pl := ⟨w.heap.size, 0, arr.size, false, 1⟩) hρ
    rw [cellAt_flat hch.each] at hj
    obtain ⟨v, k1, k2⟩ := hch.vals.get hj
    refine ⟨v, ?_, k2.mono hm, hch.flat v (List.mem_of_getElem? k1)⟩
    have hlt : j < str.data.toList.length := by have := (List.getElem?_eq_some_iff.1 k1).1; simpa using this
    rw [harr]
    rw [Array.getElem?_append_left (by simpa using hlt)]
    rw [← k1]
    simp
  · refine ⟨_, c, 0, Env.set_same, ⟨Nat.le_refl _, by omega, fun h => by simp at h, fun _ => ⟨rfl, ?_⟩⟩, fun _ => by simp, by rw [hl]⟩
    show 0 + 0 + c * 1 ≤ arr.size
    omega
end Go.Ex

namespace Go.Ex
variable {sy : Nat → Value} {ρ : Env} {P : Program}

/-- a look at memory, as the model does it -/
def ReadOk (sy : Nat → Value) (P : Program) (op : Op) (f : RO) : Prop :=
  ∀ (ρ : Env) (tm : T AV) (a : Act) (s : St) (r : Rd) (o : Oper) (w : World), o.op = op → SatS sy ρ s w → TM sy ρ tm a → f P tm s = some r →
    ∃ u, (execOp a.eval o).run P w = .ok (.value u) w ∧ V sy ρ r.v u

theorem rLoad_ok (t : TypeId) (x : Operand) : ReadOk sy P (.load t x) (rLoad t x) := by
  intro ρ tm a s r o w ho hs ht h
  simp only [rLoad, ob_some] at h
  obtain ⟨y, h1, p, h2, n, h3, v, h4, h5⟩ := h
  simp at h5; subst h5
  obtain ⟨pl, e1, e2⟩ := asPtr_V h2 (ev_V hs.sat.glob ht h1)
  obtain ⟨pl', u, g1, g2, g3⟩ := loadV_at hs h4
  rw [e1] at g1; simp at g1; subst g1
  exact ⟨u, by simp [execOp, ho, e2, Instr.loadAt, Instr.sureAddr, g3], g2⟩

theorem byteOf1_inv {c : List AV} {b : Nat} (h : byteOf1 c = some b) : c = [.int .u8 (b : Int)] ∧ b < 256 := by
  unfold byteOf1 at h
  split at h
  · rename_i i
    rw [ob_some] at h
    obtain ⟨n, h1, h2⟩ := h
    rw [bi_some] at h2
    obtain ⟨h2, h3⟩ := h2
    simp at h3; subst h3
    cases i <;> simp [intNat] at h1
    subst h1
    exact ⟨rfl, by simpa [Nat.blt_eq] using h2⟩
  · simp at h
theorem u8_inv {e : TypeId} {u : Bool} (h : u8? P e = some u) (hu : u = true) : P.underlying e = some (.int .u8) := by
  simp only [u8?, ob_some] at h
  obtain ⟨de, h9, h10⟩ := h
  simp at h10
  rw [hu] at h10
  cases de <;> simp [isU8] at h10
  rename_i k; cases k <;> simp at h10
  exact h9
theorem packL_inv : ∀ {l : List (List AV)} {vs : List Value} {b : Nat}, packL l = some b → VL sy ρ l.flatten vs →
    ∃ us : List UInt8, vs = us.map (fun (u : UInt8) => Value.int .u8 (u.toNat : Int)) ∧ us.length = l.length ∧ b = pack us
  | [], vs, b, h, hv => by
    have h' : some 0 = some b := h
    simp at h'; subst h'
    exact ⟨[], by rw [show vs = [] from hv]; rfl, rfl, rfl⟩
  | c :: l, vs, b, h, hv => by
    have h' : (ob (byteOf1 c) fun b => ob (packL l) fun r => some (Nat.add b (Nat.mul 256 r))) = some b := h
    simp only [ob_some] at h'
    obtain ⟨x, h1, r, h2, h3⟩ := h'
    simp at h3; subst h3
    obtain ⟨e, hx⟩ := byteOf1_inv h1
    subst e
    rw [List.flatten_cons] at hv
    obtain ⟨u, us, rfl, k1, k2⟩ := hv
    obtain ⟨ns, q1, q2, q3⟩ := packL_inv h2 k2
    have hx' : (UInt8.ofNat x).toNat = x := by simp; omega
    refine ⟨UInt8.ofNat x :: ns, ?_, by simp [q2], ?_⟩
    · have k1' : u = .int .u8 (x : Int) := k1
      rw [q1, k1', List.map_cons, hx']
    · rw [q3, pack_cons, hx']
theorem packA_inv {l : List (List AV)} {vs : List Value} {n : Nat} {v : AV} (h : packA l n = some v) (hn : n = l.length) (hv : VL sy ρ l.flatten vs) :
    ∃ us : List UInt8, vs = us.map (fun (u : UInt8) => Value.int .u8 (u.toNat : Int)) ∧ us.length = l.length ∧ ∀ ρ', V sy ρ' v (.string ⟨us.toArray⟩) := by
  unfold packA at h
  split at h
  · rename_i b hb
    obtain ⟨us, h1, h2, h3⟩ := packL_inv hb hv
    simp at h; subst h
    exact ⟨us, h1, h2, fun _ => ⟨_, rfl, by simpa [hn] using h2, h3.symm⟩⟩
  · rw [bi_some] at h
    obtain ⟨h1, h2⟩ := h
    simp at h2; subst h2
    have key : ∀ {l : List (List AV)} {vs : List Value}, allB l = true → VL sy ρ l.flatten vs → ∃ us : List UInt8, vs = us.map (fun (u : UInt8) => Value.int .u8 (u.toNat : Int)) ∧ us.length = l.length := by
      intro l
      induction l with
      | nil => intro vs _ hv; exact ⟨[], by rw [show vs = [] from hv]; rfl, rfl⟩
      | cons c l ih =>
        intro vs ha hv
        have ha' : (isByte c).and (allB l) = true := ha
        have ha2 : isByte c = true ∧ allB l = true := by revert ha'; cases isByte c <;> cases allB l <;> simp
        obtain ⟨a1, a2⟩ := ha2
        have hc : ∃ u : AV, c = [u] ∧ ∀ z, V sy ρ u z → ∃ x : UInt8, z = .int .u8 (x.toNat : Int) := by
          unfold isByte at a1
          split at a1
          · refine ⟨_, rfl, fun z hz => ?_⟩
            obtain ⟨b, hb, rfl⟩ := hz
            exact ⟨UInt8.ofNat b, by simp; omega⟩
          · cases hb : byteOf1 c with
            | none => rw [hb] at a1; cases a1
            | some b =>
              obtain ⟨e, hx⟩ := byteOf1_inv hb
              refine ⟨_, e, fun z hz => ?_⟩
              have hz' : z = .int .u8 (b : Int) := hz
              exact ⟨UInt8.ofNat b, by rw [hz']; simp; omega⟩
        obtain ⟨u, rfl, hu⟩ := hc
        rw [List.flatten_cons] at hv
        obtain ⟨z, zs, rfl, k1, k2⟩ := hv
        obtain ⟨x, rfl⟩ := hu z k1
        obtain ⟨ns, q1, q2⟩ := ih a2 k2
        exact ⟨x :: ns, by rw [q1]; rfl, by simp [q2]⟩
    obtain ⟨us, k1, k2⟩ := key h1 hv
    exact ⟨us, k1, k2, fun _ => ⟨_, rfl, by simpa [hn] using k2⟩⟩
theorem foldl_push : ∀ (us : List UInt8) (s : ByteArray), (us.map fun (u : UInt8) => (u.toNat : Int)).foldl (fun r n => r.push (UInt8.ofNat n.toNat)) s = ⟨s.data ++ us.toArray⟩
  | [], s => by simp
  | u :: us, s => by
    rw [List.map_cons, List.foldl_cons, foldl_push us]
    have : UInt8.ofNat ((u.toNat : Int)).toNat = u := by simp
    rw [this]
    congr 1
    show (s.data.push u) ++ us.toArray = _
    simp
theorem rOfBytes_ok {s d : TypeId} {x : Operand} {e : TypeId} (hs : P.underlying s = some (.slice e)) (hd : P.underlying d = some .string) : ReadOk sy P (.convert s d x) (rOfBytes s x) := by
  intro ρ tm a st r o w ho hS ht h
  simp only [rOfBytes, ob_some] at h
  obtain ⟨y, h1, h2⟩ := h
  have hv := ev_V hS.sat.glob ht h1
  cases y with
  | nils =>
    simp only [ofBytes, ob_some, bi_some] at h2
    obtain ⟨e', h3, u8, h4, h5, h6⟩ := h2
    simp at h6; subst h6
    have he : e' = e := by have := elem_und h3; rw [hs] at this; simp at this; exact this.symm
    subst he
    have e1 : a.eval x = .slice none 0 0 := hv
    exact ⟨.string .empty, by simp [execOp, ho, e1, convert, run_underlying hs, run_underlying hd, run_underlying (u8_inv h4 h5), Conv.bytesToString], .empty, rfl, rfl, rfl⟩
  | slc id off n cap z =>
    simp only [ofBytes, ob_some, bi_some] at h2
    obtain ⟨e', h3, u8, h4, h5, l, h6, b, h7, h8⟩ := h2
    simp at h8; subst h8
    have he : e' = e := by have := elem_und h3; rw [hs] at this; simp at this; exact this.symm
    subst he
    have h9 := u8_inv h4 h5
    obtain ⟨vs, c1, c2⟩ := elemsN_at hS h6
    obtain ⟨us, d1, d2, d3⟩ := packL_inv h7 c1.vals
    obtain ⟨pl, c, o', g1, g2, g3, g4⟩ := hv
    have hload : (loadCells ⟨pl.blk, o', none⟩ n).run P w = .ok ((us.map fun (u : UInt8) => (u.toNat : Int)).map (Value.int .u8)).toArray w := by
      have hn : us.length = n := by rw [d2, c1.len]
      rw [List.map_map]
      rw [show (us.map (Value.int .u8 ∘ fun (u : UInt8) => (u.toNat : Int))) = vs from by rw [d1]; rfl]
      rw [← hn, show us.length = vs.length from by rw [d1]; simp]
      refine run_loadCells_list (P := P) w _ vs (fun j v hj => ?_)
      have hn0 : n ≠ 0 := by
        intro h0
        have := c1.vlen
        rw [h0] at this
        have := (List.getElem?_eq_some_iff.1 hj).1
        omega
      obtain ⟨pl', k1, k2, k3⟩ := c2 hn0
      rw [g1] at k1; simp at k1; subst k1
      have ho' := g3 (by have := g2.1; have := g2.2.1; omega)
      subst ho'
      rw [addr_add]
      exact k3 j v hj
    have hrun := run_bytesToString (P := P) w ⟨pl.blk, o', none⟩ n c _ hload
    rw [foldl_push] at hrun
    refine ⟨.string ⟨(ByteArray.empty).data ++ us.toArray⟩, ?_, ⟨(ByteArray.empty).data ++ us.toArray⟩, rfl, ?_, ?_⟩
    · simp only [execOp, ho, g4, convert, Sem.run_bind, run_underlying hs, run_underlying hd, run_underlying h9, Result.andThen_ok, hrun, Sem.run_pure]
    · have : ((ByteArray.empty).data ++ us.toArray).toList = us := by simp
      rw [show (ByteArray.mk ((ByteArray.empty).data ++ us.toArray)).data.toList = us from this, d2, c1.len]
    · have : ((ByteArray.empty).data ++ us.toArray).toList = us := by simp
      rw [show (ByteArray.mk ((ByteArray.empty).data ++ us.toArray)).data.toList = us from this, d3]
  | _ => simp [ofBytes] at h2
theorem and_true'' {a b : Bool} : Bool.and a b = true ↔ a = true ∧ b = true := by cases a <;> cases b <;> simp
theorem or_true'' {a b : Bool} : Bool.or a b = true ↔ a = true ∨ b = true := by cases a <;> cases b <;> simp
theorem sameAddr_run {w : World} {i j : Nat} {o p : Nat} {ti tj : TypeId × Nat} (hne : i ≠ j) (hi : w.shape? i = some ti) (hj : w.shape? j = some tj) (fi : ∀ o, w.frozen? ⟨i, o, none⟩ = false) (fj : ∀ o, w.frozen? ⟨j, o, none⟩ = false) :
    (sameAddr ⟨i, o, none⟩ ⟨j, p, none⟩).run P w = .ok false w := by
  obtain ⟨a, b⟩ := ti
  obtain ⟨c, d⟩ := tj
  simp [sameAddr, hne, fi, fj, noView, viewAt, hi, hj, mayBeOne, stringish]
theorem eqAddr_run {s : St} {w : World} {i o j p : Nat} {b : Bool} {pi pj : Pl} (hS : SatS sy ρ s w) (h : eqAddr s i o j p = some b) (hi : ρ i = some pi) (hj : ρ j = some pj) :
    (sameAddr ⟨pi.blk, pi.base + o, none⟩ ⟨pj.blk, pj.base + p, none⟩).run P w = .ok b w := by
  unfold eqAddr at h
  rw [bi_eq] at h
  split at h
  · rename_i hij
    have hij' : i = j := by simpa using hij
    subst hij'
    rw [hi] at hj; simp at hj; subst hj
    simp at h; subst h
    by_cases e : o = p
    · subst e; rw [run_sameAddr_same]; simp
    · have : (⟨pi.blk, pi.base + o, none⟩ : Addr) ≠ ⟨pi.blk, pi.base + p, none⟩ := by simp [e]
      have e2 : Nat.beq o p = false := by rw [← Bool.not_eq_true]; simpa using e
      simp [sameAddr, e, e2]
  · rename_i hij
    simp only [bi_some] at h
    obtain ⟨h1, h2⟩ := h
    simp at h2; subst h2
    rw [and_true''] at h1
    obtain ⟨h1, h3⟩ := h1
    have hij' : i ≠ j := by simpa using hij
    have row : ∀ k, exactRow s k = true → ∃ r, s.hv k = some r ∧ r.exact = true := by
      intro k hk
      unfold exactRow at hk
      split at hk
      · rename_i r hr; exact ⟨r.v, hv_some.2 ⟨r, hr, rfl⟩, hk⟩
      · simp at hk
    simp at h1
    obtain ⟨r1, a1, a2⟩ := row i h1.1
    obtain ⟨r2, b1, b2⟩ := row j h1.2
    obtain ⟨p1, a3, a4, a5, a6⟩ := hS.sat.rows i r1 a1
    obtain ⟨p2, b3, b4, b5, b6⟩ := hS.sat.rows j r2 b1
    rw [hi] at a3; simp at a3; subst a3
    rw [hj] at b3; simp at b3; subst b3
    obtain ⟨e1, s1⟩ := a6.shape
    obtain ⟨e2, s2⟩ := b6.shape
    by_cases e : pi.blk = pj.blk
    · rcases hS.sat.sep i j r1 r2 pi pj hij' a1 b1 hi hj e with ⟨q1, q2, q3⟩ | ⟨q1, q2, q3, q4, q5⟩
      · have ho : o = 0 ∧ p = 0 := by
          rw [or_true'', and_true'', or_true''] at h3
          rcases h3 with ⟨x, y⟩ | x | x
          · exact ⟨by simpa using x, by simpa using y⟩
          · exact absurd (Nat.le_of_ble_eq_true x) (Nat.not_le_of_lt q1)
          · exact absurd (Nat.le_of_ble_eq_true x) (Nat.not_le_of_lt q2)
        obtain ⟨rfl, rfl⟩ := ho
        rw [e]
        simp [sameAddr, q3]
      · exact absurd (hS.sat.exfam i r1 a1 a2) q4
    have hne : pi.blk ≠ pj.blk := e
    exact sameAddr_run hne s1 s2 (a6.plain a2) (b6.plain b2)

theorem eqPtr_run {s : St} {w : World} {x y : AV} {d : TypeDesc} {b : Bool} {t : TypeId} {u v : Value} (hS : SatS sy ρ s w) (h : eqPtr P s x y d = some b) (hu : V sy ρ x u) (hv : V sy ρ y v) (ht : P.underlying t = some d) (n : Nat) :
    (Op.equalIn (n + 1) t u v).run P w = .ok b w ∧ u ≠ .nilIface ∧ (∀ c, u ≠ .agg c) ∧ binOp .eql t u v = (do pure (.bool (← Op.equal t u v))) ∧ binOp .neq t u v = (do pure (.bool (!(← Op.equal t u v)))) := by
  unfold eqPtr at h
  split at h
  · rename_i e i o j p
    rw [ob_some] at h
    obtain ⟨m, h1, h2⟩ := h
    rw [bi_eq] at h2
    split at h2
    · simp at h2
    · rename_i hm
      have hm' : ¬ m = 0 := by simpa using hm
      obtain ⟨pi, e1, rfl⟩ := hu
      obtain ⟨pj, e2, rfl⟩ := hv
      have := eqAddr_run (P := P) hS h2 e1 e2
      exact ⟨by simp [Op.equalIn, run_underlying ht, size_run h1, hm', this], by simp, by simp, by simp [binOp], by simp [binOp]⟩
  · simp at h; subst h
    rw [show u = _ from hu, show v = _ from hv]
    exact ⟨by simp [Op.equalIn, run_underlying ht], by simp, by simp, by simp [binOp], by simp [binOp]⟩
  · simp at h; subst h
    obtain ⟨pj, e2, rfl⟩ := hv
    rw [show u = _ from hu]
    exact ⟨by simp [Op.equalIn, run_underlying ht], by simp, by simp, by simp [binOp], by simp [binOp]⟩
  · simp at h; subst h
    obtain ⟨pj, e2, rfl⟩ := hu
    rw [show v = _ from hv]
    exact ⟨by simp [Op.equalIn, run_underlying ht], by simp, by simp, by simp [binOp], by simp [binOp]⟩
  · simp at h
theorem eqDyn_run {s : St} {w : World} {x y : AV} {d : TypeDesc} {b : Bool} {t : TypeId} {u v : Value} (hS : SatS sy ρ s w) (h : eqDyn P s x y d = some b) (hu : V sy ρ x u) (hv : V sy ρ y v) (ht : P.underlying t = some d) (n : Nat) :
    (Op.equalIn (n + 1) t u v).run P w = .ok b w := by
  unfold eqDyn at h
  split at h
  · rename_i k a l c
    rw [bi_some] at h
    obtain ⟨h1, h2⟩ := h
    obtain rfl := kn_inj h1
    rw [ibeq_eq] at h2
    simp only [Option.some.injEq] at h2
    subst h2
    rw [show u = _ from hu, show v = _ from hv]
    simp [Op.equalIn, run_underlying ht]
    rfl
  · exact (eqPtr_run hS h hu hv ht n).1
theorem eqIfc_run {s : St} {w : World} {t t' ti : TypeId} {x y : AV} {b : Bool} {u v : Value} {ms : Array (String × TypeId)} (hS : SatS sy ρ s w) (h : eqIfc P s t t' x y = some b) (hu : V sy ρ x u) (hv : V sy ρ y v) (hi : P.underlying ti = some (.interface ms)) (n : Nat) :
    (Op.equalIn (n + 2) ti (.iface t u) (.iface t' v)).run P w = .ok b w := by
  unfold eqIfc at h
  rw [bi_eq] at h
  split at h
  · rename_i ht
    have ht' : t = t' := by simpa using ht
    subst ht'
    simp only [ob_some, bi_some] at h
    obtain ⟨c, h1, h2, d, h3, h4⟩ := h
    simp only [comparable?, ob_some] at h1
    obtain ⟨i, h5, h6⟩ := h1
    simp at h6
    have hc : i.comparable = true := by rw [h6]; exact h2
    have := eqDyn_run hS h4 hu hv h3 n
    simp [Op.equalIn, run_underlying hi, typeInfo, h5, hc] at this ⊢
    exact this
  · rename_i ht
    have ht' : ¬ t = t' := by simpa using ht
    simp at h; subst h
    simp [Op.equalIn, run_underlying hi, ht']
theorem rEq_ok (op : BinOp) (t : TypeId) (x y : Operand) (q : TypeId) : ReadOk sy P (.binOp op t x y q) (rEq op t x y) := by
  intro ρ tm a s r o w ho hS ht h
  simp only [rEq, ob_some] at h
  obtain ⟨x', h1, y', h2, d, h3, b, h4, v, h5, h6⟩ := h
  simp at h6; subst h6
  have hu := ev_V hS.sat.glob ht h1
  have hv := ev_V hS.sat.glob ht h2
  have fin : ∀ (hg : (eqGuard op t x y (a.eval x) (a.eval y)).run P w = .ok () w) (he : binOp .eql t (a.eval x) (a.eval y) = (do pure (.bool (← Op.equal t (a.eval x) (a.eval y)))))
      (hn : binOp .neq t (a.eval x) (a.eval y) = (do pure (.bool (!(← Op.equal t (a.eval x) (a.eval y)))))) (hr : (Op.equal t (a.eval x) (a.eval y)).run P w = .ok b w),
      ∃ u, (execOp a.eval o).run P w = .ok (.value u) w ∧ V sy ρ v u := by
    intro hg he hn hr
    rcases eqOp_V h5 with ⟨rfl, rfl⟩ | ⟨rfl, rfl⟩
    · exact ⟨.bool b, by simp [execOp, ho, hg, he, hr], rfl⟩
    · exact ⟨.bool !b, by simp [execOp, ho, hg, hn, hr], rfl⟩
  clear h1 h2 ht
  generalize a.eval x = ux at *
  generalize a.eval y = uy at *
  unfold eqRd at h4
  split at h4
  · rename_i ms t1 z t2 z'
    obtain ⟨u1, rfl, e2⟩ := hu
    obtain ⟨u2, rfl, e4⟩ := hv
    exact fin (guard_plain (by simp) (by simp) w) (by simp [binOp]) (by simp [binOp]) (eqIfc_run hS h4 e2 e4 h3 9998)
  · rename_i ms t2 z'
    simp at h4; subst h4
    obtain ⟨u2, rfl, e4⟩ := hv
    have hu' : ux = .nilIface := hu
    subst hu'
    exact fin (by cases op <;> simp [eqGuard]) (by simp [binOp]) (by simp [binOp]) (eqP_run (P := P) (c := false) (x := .nili) (y := .ifc t2 z') (sy := sy) (ρ := ρ) rfl rfl ⟨u2, rfl, e4⟩ h3 w)
  · rename_i ms t2 z'
    simp at h4; subst h4
    obtain ⟨u2, rfl, e4⟩ := hu
    have hv' : uy = .nilIface := hv
    subst hv'
    exact fin (by cases op <;> simp [eqGuard]) (by simp [binOp]) (by simp [binOp]) (eqP_run (P := P) (c := false) (x := .ifc t2 z') (y := .nili) (sy := sy) (ρ := ρ) rfl ⟨u2, rfl, e4⟩ rfl h3 w)
  · rename_i e
    obtain ⟨k1, k2, k3, k4, k5⟩ := eqPtr_run hS h4 hu hv h3 9999
    exact fin (guard_plain k2 k3 w) k4 k5 k1
  · simp at h4
end Go.Ex

namespace Go.Ex
variable {sy : Nat → Value} {ρ : Env} {P : Program}

structure Ext (s s' : St) : Prop where
  next : s.next ≤ s'.next
  floor : s'.floor = s.floor
  dom : ∀ i, s.heap.get i = none → (i < s.next ∨ s'.next ≤ i) → s'.heap.get i = none
  mdom : ∀ i, s.fams.ms.get i = none → (i < s.next ∨ s'.next ≤ i) → s'.fams.ms.get i = none
theorem Ext.refl (s : St) : Ext s s := ⟨Nat.le_refl _, rfl, fun _ h _ => h, fun _ h _ => h⟩
theorem Ext.trans {a b c : St} (h : Ext a b) (k : Ext b c) : Ext a c :=
  ⟨Nat.le_trans h.next k.next, k.floor.trans h.floor, fun i hi hr => k.dom i (h.dom i hi (hr.imp (fun x => x) (fun x => Nat.le_trans k.next x))) (hr.imp (fun x => Nat.lt_of_lt_of_le x h.next) (fun x => x)),
   fun i hi hr => k.mdom i (h.mdom i hi (hr.imp (fun x => x) (fun x => Nat.le_trans k.next x))) (hr.imp (fun x => Nat.lt_of_lt_of_le x h.next) (fun x => x))⟩
theorem Kept.ext {a b : St} (h : Kept a b) : Ext a b := ⟨Nat.le_of_eq h.next.symm, h.floor, fun i hi _ => (h.dom i).2 hi, fun i hi _ => by rw [h.ms]; exact hi⟩
def Fresh (ρ : Env) (a b : Nat) : Prop := ∀ i, a ≤ i → i < b → ρ i = none
/-- a block of which a row may be written -/
def Owned (ρ : Env) (s : St) (b : Nat) : Prop := (∃ i r pl, s.floor ≤ i ∧ s.heap.get i = some r ∧ ρ i = some pl ∧ pl.blk = b) ∨ ∃ i m pl, s.floor ≤ i ∧ s.fams.ms.get i = some m ∧ ρ i = some pl ∧ pl.blk = b
structure Fr (ρ ρ' : Env) (s s' : St) (w w' : World) : Prop where
  size : w.heap.size ≤ w'.heap.size
  os : w'.os = w.os
  tape : w'.tape = w.tape
  output : w'.output = w.output
  old : ∀ b, b < w.heap.size → ¬ Owned ρ s b → w'.heap[b]? = w.heap[b]?
  mono : ∀ i q, ρ i = some q → ρ' i = some q
  newid : ∀ i q, ρ' i = some q → ρ i = none → (s.next ≤ i ∧ i < s'.next) ∧ (w.heap.size ≤ q.blk ∨ Owned ρ s q.blk)
structure Out (sy : Nat → Value) (ρ : Env) (s : St) (w : World) (ρ' : Env) (s' : St) (w' : World) : Prop where
  ext : Ext s s'
  fr : Fr ρ ρ' s s' w w'
  sat : SatS sy ρ' s' w'
theorem Out.refl {s : St} {w : World} (h : SatS sy ρ s w) : Out sy ρ s w ρ s w :=
  ⟨.refl s, ⟨Nat.le_refl _, rfl, rfl, rfl, fun _ _ _ => rfl, fun _ _ h => h, fun i q h h' => by rw [h'] at h; simp at h⟩, h⟩
theorem Fresh.sub {a b c d : Nat} (h : Fresh ρ a b) (h1 : a ≤ c) (h2 : d ≤ b) : Fresh ρ c d := fun i k1 k2 => h i (Nat.le_trans h1 k1) (Nat.lt_of_lt_of_le k2 h2)
theorem Out.fresh {s s' : St} {w w' : World} {ρ' : Env} {b : Nat} (h : Out sy ρ s w ρ' s' w') (hf : Fresh ρ s.next b) : Fresh ρ' s'.next b := by
  intro i h1 h2
  cases hq : ρ' i with
  | none => rfl
  | some q =>
    have h0 := hf i (Nat.le_trans h.ext.next h1) h2
    have := (h.fr.newid i q hq h0).1.2
    omega
theorem Out.trans {s s1 s2 : St} {w w1 w2 : World} {ρ1 ρ2 : Env} (h : Out sy ρ s w ρ1 s1 w1) (k : Out sy ρ1 s1 w1 ρ2 s2 w2) (hf : Fresh ρ s.next s2.next) : Out sy ρ s w ρ2 s2 w2 := by
  have own : ∀ b, Owned ρ1 s1 b → w.heap.size ≤ b ∨ Owned ρ s b := by
    rintro b (⟨i, r, pl, h1, h2, h3, rfl⟩ | ⟨i, r, pl, h1, h2, h3, rfl⟩)
    case inr =>
      cases hq : ρ i with
      | some q =>
        have := h.fr.mono i q hq
        rw [h3] at this; simp at this; subst this
        cases hr : s.fams.ms.get i with
        | some r0 => exact .inr (.inr ⟨i, r0, pl, by rw [← h.ext.floor]; exact h1, hr, hq, rfl⟩)
        | none =>
          rcases Nat.lt_or_ge i s.next with g | g
          · rw [h.ext.mdom i hr (.inl g)] at h2; simp at h2
          · rcases Nat.lt_or_ge i s1.next with g' | g'
            · rw [hf i g (Nat.lt_of_lt_of_le g' k.ext.next)] at hq; simp at hq
            · rw [h.ext.mdom i hr (.inr g')] at h2; simp at h2
      | none => exact (h.fr.newid i pl h3 hq).2
    cases hq : ρ i with
    | some q =>
      have := h.fr.mono i q hq
      rw [h3] at this; simp at this; subst this
      cases hr : s.heap.get i with
      | some r0 => exact .inr (.inl ⟨i, r0, pl, by rw [← h.ext.floor]; exact h1, hr, hq, rfl⟩)
      | none =>
        rcases Nat.lt_or_ge i s.next with g | g
        · rw [h.ext.dom i hr (.inl g)] at h2; simp at h2
        · rcases Nat.lt_or_ge i s1.next with g' | g'
          · rw [hf i g (Nat.lt_of_lt_of_le g' k.ext.next)] at hq; simp at hq
          · rw [h.ext.dom i hr (.inr g')] at h2; simp at h2
    | none => exact (h.fr.newid i pl h3 hq).2
  refine ⟨h.ext.trans k.ext, ⟨Nat.le_trans h.fr.size k.fr.size, k.fr.os.trans h.fr.os, k.fr.tape.trans h.fr.tape, k.fr.output.trans h.fr.output, fun b hb ho => ?_, fun i q hq => k.fr.mono i q (h.fr.mono i q hq), fun i q hq h0 => ?_⟩, k.sat⟩
  · rw [k.fr.old b (Nat.lt_of_lt_of_le hb h.fr.size) (fun ho' => (own b ho').elim (fun g => by omega) ho), h.fr.old b hb ho]
  · cases hq1 : ρ1 i with
    | some q1 =>
      have := k.fr.mono i q1 hq1
      rw [hq] at this; simp at this; subst this
      obtain ⟨⟨g1, g2⟩, g3⟩ := h.fr.newid i q hq1 h0
      exact ⟨⟨g1, Nat.lt_of_lt_of_le g2 k.ext.next⟩, g3⟩
    | none =>
      obtain ⟨⟨g1, g2⟩, g3⟩ := k.fr.newid i q hq hq1
      refine ⟨⟨Nat.le_trans h.ext.next g1, g2⟩, ?_⟩
      rcases g3 with g3 | g3
      · exact .inl (Nat.le_trans h.fr.size g3)
      · exact own _ g3
theorem TM.mono {tm : T AV} {a : Act} {ρ' : Env} (h : TM sy ρ tm a) (hm : ∀ i q, ρ i = some q → ρ' i = some q) : TM sy ρ' tm a := fun t v hv => (h t v hv).mono hm

/-- what a step that may do more than make a value does -/
def EffOk (sy : Nat → Value) (P : Program) (call : CallR) (op : Op) (f : CallR → O) : Prop :=
  ∀ (ρ : Env) (tm : T AV) (a : Act) (s s' : St) (v : AV) (w : World) (o : Oper) (K : Act → World → Prop) (Q : Exit → Act → World → Prop), o.op = op → SatS sy ρ s w → TM sy ρ tm a → Fresh ρ s.next s'.next →
    f call P tm s = some (v, s') → (∀ ρ' w' u, Out sy ρ s w ρ' s' w' → V sy ρ' v u → K (a.put o.dst u) w') → o.wp P a w K Q

theorem sized_inv {t : TypeId} {l : List AV} {n : Nat} (h : sized P t l = some n) : size? P t = some n ∧ l.length = n := by
  simp only [sized, ob_some, bi_some] at h
  obtain ⟨m, h1, h2, h3⟩ := h
  simp at h3; subst h3
  rw [lenL_eq] at h2
  exact ⟨h1, by simpa using h2⟩
theorem store_run {w : World} {t : TypeId} {b o n : Nat} {v : Value} (hn : size? P t = some n) (hl : v.cells.size = n) (hin : w.there b o n) (hf : ∀ u ∈ v.cells.toList, Flat u) :
    (Instr.storeAt t (.pointer (some ⟨b, o, none⟩)) v).run P w = .ok () (w.setCells b o v.cells.toList) := by
  have hst := run_storeCells_cells (P := P) b o v.cells.toList 0 w (fun j hj => by
    have hj' : j < n := by rw [← hl]; simpa using hj
    simpa using (hin j hj').1) (fun j hj => by
    have hj' : j < n := by rw [← hl]; simpa using hj
    simpa using (hin j hj').2) (fun u hu => (hf u hu).one)
  simp only [Nat.add_zero] at hst
  simp [Instr.storeAt, Instr.sureAddr, storeVar, size_run hn, hl, hst]
theorem storeC_out {s s' : St} {w : World} {id off : Nat} {vs : List AV} {us : List Value} (hs : SatS sy ρ s w) (h : storeC s id off vs = some s') (hv : VL sy ρ vs us) (hf : ∀ u ∈ us, Flat u) :
    ∃ pl, ρ id = some pl ∧ w.there pl.blk (pl.base + off) us.length ∧ Out sy ρ s w ρ s' (w.setCells pl.blk (pl.base + off) us) ∧ Kept s s' := by
  obtain ⟨pl, h1, h2, h3, h4, h5, row, h6⟩ := storeC_at hs h hv hf
  obtain ⟨q1, q2, q3, q4⟩ := world_setCells pl.blk us (pl.base + off) w
  refine ⟨pl, h1, h2, ⟨h4.ext, ⟨Nat.le_of_eq q1.symm, q2, q3, q4, fun b hb ho => ?_, fun _ _ k => k, fun i q k k' => by rw [k'] at k; simp at k⟩, h3⟩, h4⟩
  exact block_setCells _ _ (fun e => ho (.inl ⟨id, row, pl, h5, h6, h1, e.symm⟩)) us _ w
theorem aStore_ok (call : CallR) (t : TypeId) (x y : Operand) : EffOk sy P call (.store t x y) (aStore t x y) := by
  intro ρ tm a s s' v w o K Q ho hS ht hfr h hK
  simp only [aStore, ob_some] at h
  obtain ⟨x', h1, p, h2, y', h3, l, h4, n, h5, s1, h6, h7⟩ := h
  simp at h7
  obtain ⟨rfl, rfl⟩ := h7
  obtain ⟨q1, q2⟩ := sized_inv h5
  obtain ⟨pl, e1, e2⟩ := asPtr_V h2 (ev_V hS.sat.glob ht h1)
  obtain ⟨c1, c2⟩ := (ev_V hS.sat.glob ht h3).cells h4
  obtain ⟨pl', g1, g2, g3, _⟩ := storeC_out hS h6 c1 c2
  rw [e1] at g1; simp at g1; subst g1
  have hl : (a.eval y).cells.size = n := by rw [← q2, ← c1.length]; simp
  have hrun := store_run (P := P) q1 hl (by rw [← hl]; simpa using g2) c2
  unfold Oper.wp
  simp only [execOp, ho, e2, Sem.run_bind, hrun, Result.andThen_ok, Sem.run_pure, Oper.upon_skip]
  exact hK ρ _ _ g3 ⟨#[], rfl, rfl⟩
end Go.Ex

namespace Go.Ex
variable {sy : Nat → Value} {ρ : Env} {P : Program}

theorem setCells_append (b : Nat) : ∀ (us vs : List Value) (o : Nat) (w : World), w.setCells b o (us ++ vs) = (w.setCells b o us).setCells b (o + us.length) vs
  | [], vs, o, w => by simp [World.setCells]
  | u :: us, vs, o, w => by
    show (w.setCell ⟨b, o, none⟩ u).setCells b (o + 1) (us ++ vs) = ((w.setCell ⟨b, o, none⟩ u).setCells b (o + 1) us).setCells b (o + (us.length + 1)) vs
    rw [setCells_append b us vs, show o + 1 + us.length = o + (us.length + 1) from by omega]
theorem there_back {w : World} {b o n b' o' : Nat} {vs : List Value} {x : TypeId × Nat} (hs : w.shape? b' = some x) (h : (w.setCells b o vs).there b' o' n) : w.there b' o' n := by
  intro j hj
  obtain ⟨h1, h2⟩ := h j hj
  obtain ⟨el, m⟩ := x
  rw [World.frozen?_setCells] at h2
  refine ⟨?_, h2⟩
  rw [cell_of_shape (by rw [shape_setCells]; exact hs)] at h1
  rw [cell_of_shape hs]; exact h1
theorem storeEls_out {z id : Nat} : ∀ {l : List (List AV)} {off n : Nat} {s s' : St} {w : World} {us : List Value}, SatS sy ρ s w → storeEls z id l off s = some s' → Ch sy ρ z l n us →
    (l = [] ∧ s' = s ∧ us = []) ∨ ∃ pl, ρ id = some pl ∧ w.there pl.blk (pl.base + off) us.length ∧ Out sy ρ s w ρ s' (w.setCells pl.blk (pl.base + off) us) ∧ Kept s s'
  | [], off, n, s, s', w, us, hs, h, hc => by
    have h' : some s = some s' := h
    simp at h'; subst h'
    exact .inl ⟨rfl, rfl, hc.vals⟩
  | c :: l, off, n, s, s', w, us, hs, h, hc => by
    have h' : (ob (storeC s id off c) fun s1 => storeEls z id l (Nat.add off z) s1) = some s' := h
    simp only [ob_some] at h'
    obtain ⟨s1, h1, h2⟩ := h'
    have hcl := hc.each c List.mem_cons_self
    have hv := hc.vals
    rw [List.flatten_cons] at hv
    have hvt := hv.take z
    have hvd := hv.drop z
    rw [List.take_left' hcl] at hvt
    rw [List.drop_left' hcl] at hvd
    obtain ⟨pl, g1, g2, g3, g4⟩ := storeC_out hs h1 hvt (fun u hu => hc.flat u (List.mem_of_mem_take hu))
    have htl : (us.take z).length = z := by rw [hvt.length, hcl]
    have hsplit : us.take z ++ us.drop z = us := List.take_append_drop z us
    have hch : Ch sy ρ z l l.length (us.drop z) := ⟨rfl, fun x hx => hc.each x (List.mem_cons_of_mem _ hx), hvd, fun u hu => hc.flat u (List.mem_of_mem_drop hu)⟩
    have hlen : us.length = z + (us.drop z).length := by have := congrArg List.length hsplit; rw [List.length_append, htl] at this; omega
    rcases storeEls_out g3.sat h2 hch with ⟨k1, k2, k3⟩ | ⟨pl', k1, k2, k3, k4⟩
    · subst k2
      refine .inr ⟨pl, g1, ?_, ?_, g4⟩
      · rw [hlen, k3]; simpa [htl] using g2
      · rw [← hsplit, k3, List.append_nil]; exact g3
    · rw [g1] at k1; simp at k1; subst k1
      obtain ⟨row, hr⟩ : ∃ r, s.hv id = some r := by
        simp only [storeC, bi_some, ob_some] at h1
        obtain ⟨_, row, hq, _⟩ := h1
        exact ⟨row.v, hv_some.2 ⟨row, hq, rfl⟩⟩
      obtain ⟨p2, q1, _, _, q2⟩ := hs.sat.rows id row hr
      rw [g1] at q1; simp at q1; subst q1
      obtain ⟨el, hsh⟩ := q2.shape
      have hb := there_back hsh k2
      have e1 : pl.base + Nat.add off z = pl.base + off + (us.take z).length := by rw [htl]; show pl.base + (off + z) = _; omega
      rw [e1] at hb k3
      refine .inr ⟨pl, g1, fun j hj => ?_, ?_, g4.trans k4⟩
      · by_cases hjz : j < z
        · exact g2 j (by rw [htl]; exact hjz)
        · have := hb (j - z) (by omega)
          rw [show pl.base + off + (us.take z).length + (j - z) = pl.base + off + j from by rw [htl]; omega] at this
          exact this
      · rw [← hsplit, setCells_append]
        refine g3.trans k3 ?_
        intro i hi1 hi2
        rw [k4.next, g4.next] at hi2
        omega

/-- a new row joins what is known -/
theorem addRow_out {s : St} {row : Row} {pl : Pl} {w w' : World} (hS : SatS sy ρ s w) (hρ : ρ s.next = none) (h : NewAt sy ρ s.next row pl w w') : Out sy ρ s w (Env.set ρ s.next pl) (addRow s row) w' := by
  obtain ⟨arr, el, lo, hi, m1, m2, m3, m4, m5⟩ := h.mem
  have hty := h.typ arr el (lo, hi) m1
  have hnone : s.heap.get s.next = none := by
    cases hq : s.heap.get s.next with
    | none => rfl
    | some r =>
      obtain ⟨p, k, _⟩ := hS.sat.rows s.next r.v (hv_some.2 ⟨r, hq, rfl⟩)
      rw [hρ] at k; simp at k
  have hsat := hS.sat.add (r := row.v) (pl := pl) hρ h.fam h.sz h.exact h.blk m1 m2 m3 hty m4 m5
  have hget : ∀ i, (addRow s row).heap.get i = if i = s.next then some row else s.heap.get i := fun i => T.get_set _ _ _ _
  refine ⟨⟨Nat.le_succ _, rfl, fun i hi hr => ?_, fun _ hi _ => hi⟩, ⟨?_, h.os, h.tape, h.output, fun b hb _ => ?_, Env.set_mono hρ, fun i q hq hi => ?_⟩, ⟨?_, ?_, Nat.le_succ_of_le hS.fln, hS.maps.keep (Env.set_mono hρ) (map_push m1)⟩⟩
  · rw [hget, if_neg (by rcases hr with q | q; omega; exact fun e => by subst e; exact absurd q (Nat.not_succ_le_self _))]; exact hi
  · rw [m1]; simp
  · rw [m1, Array.getElem?_push, if_neg (by omega)]
  · unfold Env.set at hq
    split at hq
    · rename_i e; subst e
      simp at hq; subst hq
      exact ⟨⟨Nat.le_refl _, Nat.lt_succ_self _⟩, .inl (Nat.le_of_eq h.blk.symm)⟩
    · rw [hi] at hq; simp at hq
  · refine hsat.ext (fun i => ?_) (fun _ => rfl)
    unfold St.hv
    rw [hget]
    split <;> rfl
  · intro i r hi q ch hq
    rw [hget] at hi
    split at hi
    · simp at hi; subst hi
      exact h.each ch (List.mem_of_getElem? hq)
    · exact hS.wf i r hi q ch hq

/-- a slice that has grown into a new row -/
theorem grown_new {n z need c : Nat} {cs : List (List AV)} {vs : List Value} {rest : Array Value} {e : TypeId} {w : World} (hρ : ρ n = none) (hc : Ch sy ρ z cs need vs) (hcap : need ≤ c) (hr : rest.size = (c - need) * z) :
    NewAt sy ρ n ⟨0, false, z, cs, tyN e⟩ ⟨w.heap.size, 0, c * z, false, z⟩ w (w.drew.alloc (.cells (vs.toArray ++ rest) e)) ∧
    V sy (Env.set ρ n ⟨w.heap.size, 0, c * z, false, z⟩) (.slc n 0 need need z) (.slice (some ⟨w.heap.size, 0, none⟩) need c) := by
  have hm := Env.set_mono (ρ := ρ) (pl := ⟨w.heap.size, 0, c * z, false, z⟩) hρ
  have hsz : (vs.toArray ++ rest).size = c * z := by
    rw [Array.size_append, hr]
    simp only [List.size_toArray, hc.vlen]
    rw [← Nat.add_mul]; congr 1; omega
  refine ⟨⟨rfl, hc.each, rfl, rfl, rfl, ⟨vs.toArray ++ rest, e, 0, 0, rfl, hsz, fun o _ h => by omega, fun _ o h => by omega, fun j q hj => ?_⟩, rfl, rfl, rfl, fun _ _ _ h => by obtain rfl := push_el h; exact (tyN_or _).imp id fun q => ⟨q, rfl, fun h => by simp at h⟩⟩, ?_⟩
  · rw [cellAt_flat hc.each] at hj
    obtain ⟨v, k1, k2⟩ := hc.vals.get hj
    have hlt := (List.getElem?_eq_some_iff.1 k1).1
    refine ⟨v, ?_, k2.mono hm, hc.flat v (List.mem_of_getElem? k1)⟩
    show (vs.toArray ++ rest)[0 + j]? = some v
    rw [Nat.zero_add, Array.getElem?_append_left (by simpa using hlt)]
    simpa using k1
  · refine ⟨_, c, 0, Env.set_same, ⟨Nat.le_refl _, hcap, fun h => by simp at h, fun _ => ⟨rfl, ?_⟩⟩, fun _ => by simp, rfl⟩
    show 0 + 0 + c * z ≤ c * z
    omega
theorem zeroCells_size (z : Array Value) (n : Nat) : (Builtin.zeroCells z n).size = n * z.size := by simp [Builtin.zeroCells]
theorem elem2_inv {t u : TypeId} {z : Nat × Bool × Nat} (h : elem2 P t u = some z) : ∃ e i zv d, P.underlying t = some (.slice e) ∧ P.info? e = some i ∧ i.zero = some zv ∧ zv.cells.size = z.1 ∧ i.size = z.1 ∧ i.bytes ≤ 65536 ∧ P.underlying u = some d ∧ srcD d = some z.2.1 ∧ z.2.2 = tyN e := by
  simp only [elem2, ob_some, bi_some] at h
  obtain ⟨e, h1, w, h2, h3, zv, h4, zc, h9, n, h5, d, h6, str, h7, h8⟩ := h
  simp at h8; subst h8
  obtain ⟨k0, k8⟩ := sized_inv h5
  obtain ⟨i, k1, k2⟩ := bytes_run h2
  obtain ⟨i', k3, k4⟩ := size_info k0
  obtain ⟨i'', u', k5, k6, k7⟩ := zero_info h4
  rw [k1] at k3 k5
  simp at k3 k5; subst k3; subst k5
  have hz := (conv_V (sy := fun _ => undef) (ρ := fun _ => none) k7).cells h9
  exact ⟨e, i, u', d, elem_und h1, k1, k6, by rw [← k8, ← hz.1.length]; simp, k4, by rw [k2]; simpa using h3, h6, h7, rfl⟩
theorem elem0_inv {ts : Array TypeId} {z : Nat × Bool × Nat} (h : elem0 P ts = some z) : ∃ t u, ts = #[t, u] ∧ elem2 P t u = some z := by
  obtain ⟨l⟩ := ts
  match l, h with
  | [t, u], h => exact ⟨t, u, rfl, h⟩
  | [], h => cases h
  | [_], h => cases h
  | _ :: _ :: _ :: _, h => cases h

/-- what is appended, in the model's words -/
theorem src_slice {s : St} {w : World} {z id off n cap y : Nat} {l : List (List AV)} {v : Value} {tx e' : TypeId} (hS : SatS sy ρ s w) (hk : P.underlying tx = some (.slice e')) (h : elemsN s z id off n = some l) (hv : V sy ρ (.slc id off n cap y) v) :
    ∃ us, Ch sy ρ z l n us ∧ Src P z tx v n us w := by
  obtain ⟨us, c1, c2⟩ := elemsN_at hS h
  obtain ⟨pl, c, o, g1, g2, g3, rfl⟩ := hv
  refine ⟨us, c1, Src.ofSlice w hk _ n c us c1.vlen (fun j u hj => ?_) (fun u hu => (c1.flat u hu).one)⟩
  have hn0 : n ≠ 0 := by
    intro h0
    have := c1.vlen
    rw [h0] at this
    have := (List.getElem?_eq_some_iff.1 hj).1
    omega
  obtain ⟨pl', k1, k2, k3⟩ := c2 hn0
  rw [g1] at k1; simp at k1; subst k1
  have ho := g3 (by have := g2.1; have := g2.2.1; omega)
  subst ho
  rw [addr_add]
  exact k3 j u hj
theorem src_string {n b : Nat} {v : Value} {w : World} {tx : TypeId} (hk : P.underlying tx = some .string) (hv : V sy ρ (.str n b) v) : ∃ us, Ch sy ρ 1 (bytesL n b) n us ∧ Src P 1 tx v n us w := by
  obtain ⟨s, rfl, h1, h2⟩ := hv
  subst h1 h2
  have := Src.ofString (P := P) w hk s
  rw [Lib.size_eq] at this
  exact ⟨byteCells s, bytesL_Ch s.data.toList, this⟩
theorem anys_Ch : ∀ l : List UInt8, Ch sy ρ 1 (repL l.length [.anyb]) l.length (l.map fun b => Value.int .u8 (b.toNat : Int))
  | [] => .nil
  | b :: l => by
    have ih := anys_Ch l
    have e : repL (b :: l).length [AV.anyb] = [AV.anyb] :: repL l.length [AV.anyb] := rfl
    rw [e]
    refine ⟨by simp [ih.len], fun c hc => ?_, ?_, fun v hv => ?_⟩
    · rcases List.mem_cons.1 hc with rfl | hc
      · rfl
      · exact ih.each c hc
    · exact ⟨_, _, rfl, ⟨b.toNat, b.toNat_lt, rfl⟩, ih.vals⟩
    · simp only [List.map_cons, List.mem_cons] at hv
      rcases hv with rfl | hv
      · trivial
      · exact ih.flat v hv
theorem src_anys {n : Nat} {v : Value} {w : World} {tx : TypeId} (hk : P.underlying tx = some .string) (hv : V sy ρ (.anys n) v) : ∃ us, Ch sy ρ 1 (repL n [.anyb]) n us ∧ Src P 1 tx v n us w := by
  obtain ⟨s, rfl, h1⟩ := hv
  subst h1
  have := Src.ofString (P := P) w hk s
  rw [Lib.size_eq] at this
  exact ⟨byteCells s, anys_Ch s.data.toList, this⟩

theorem cutN_sub {hi : Nat} : ∀ {l : List (Nat × Nat)} {n : Nat} {p : Nat × Nat}, p ∈ cutN hi l n → p ∈ l ∧ p.2 ≤ hi
  | [], _, _, h => by cases h
  | q :: l, 0, _, h => by cases h
  | q :: l, n + 1, p, h => by
    have h' : p ∈ bi (Nat.ble q.2 hi) (q :: cutN hi l n) (cutN hi l (n + 1)) := h
    rw [bi_eq] at h'
    split at h'
    · rename_i hq
      rcases List.mem_cons.1 h' with e | e
      · subst e; exact ⟨List.mem_cons_self, by simpa using hq⟩
      · exact ⟨List.mem_cons_of_mem _ (cutN_sub e).1, (cutN_sub e).2⟩
    · exact ⟨List.mem_cons_of_mem _ (cutN_sub h').1, (cutN_sub h').2⟩
/-- what a family's path is behind an append -/
structure Path (F : FV) (id n hi : Nat) (r : VRow) (f : Nat) (l0 : List (Nat × Nat)) : Prop where
  is : (r.fam = 0 ∧ F n = none ∧ f = n ∧ l0 = [(id, hi)]) ∨ (r.fam ≠ 0 ∧ f = r.fam ∧ ∃ l m, F r.fam = some l ∧ l0 = (id, hi) :: cutN hi l m)
  ne : f ≠ 0
/-- a row goes on in a new one, behind its end or elsewhere -/
theorem Sat.share {H : HV} {F : FV} {fl : Nat} {w w' : World} {id n hi off e' f : Nat} {r nr : VRow} {pl pl' : Pl} {kp : Bool} {l0 : List (Nat × Nat)} (h : Sat sy ρ H F fl w) (hr : H id = some r) (hρ : ρ id = some pl) (hfl : fl ≤ id) (hn : ρ n = none) (hnfl : fl ≤ n)
    (hex : r.exact = false) (hrd : Rdb F id r.fam) (hp : Path F id n hi r f l0) (hkp : kp = true → off = 0) (hhi : kp = true → ∀ j c, r.cell j = some c → j < hi)
    (nfam : nr.fam = f) (nex : nr.exact = false) (nsz : pl'.sz = nr.sz) (nex' : pl'.exact = false) (nend : ∀ j c, nr.cell j = some c → j < e')
    (hmem : ∀ b, b < w.heap.size → b ≠ pl.blk → w'.heap[b]? = w.heap[b]?) (hshape : w'.shape? pl.blk = w.shape? pl.blk) (hfrz : ∀ o, w'.frozen? ⟨pl.blk, o, none⟩ = w.frozen? ⟨pl.blk, o, none⟩) (hcell : ∀ j, j < pl.base + hi → w'.cell? ⟨pl.blk, j, none⟩ = w.cell? ⟨pl.blk, j, none⟩)
    (hloc : (pl'.blk = pl.blk ∧ pl'.base = pl.base + off) ∨ pl'.blk = w.heap.size)
    (hnew : RowAt sy (Env.set ρ n pl') (fun g => if g = f then some ((n, e') :: if kp then l0 else []) else F g) fl w' n nr pl') :
    Sat sy (Env.set ρ n pl') (fun i => if i = n then some nr else if i = id then some ⟨f, r.exact, r.sz, r.cell, r.ty⟩ else H i) (fun g => if g = f then some ((n, e') :: if kp then l0 else []) else F g) fl w' := by
  have hm := Env.set_mono (ρ := ρ) (pl := pl') hn
  have hne : n ≠ id := fun e => by rw [e, hρ] at hn; simp at hn
  have hno : ∀ i q, H i = some q → i ≠ n := fun i q hi e => by
    obtain ⟨p, k, _⟩ := h.rows i q hi
    rw [e, hn] at k; simp at k
  -- what is on the new path was on the old one
  have hon : ∀ i, i ≠ n → On i ((n, e') :: if kp then l0 else []) → kp = true ∧ (i = id ∨ (r.fam ≠ 0 ∧ ∃ l e, F r.fam = some l ∧ (i, e) ∈ l ∧ e ≤ hi)) := by
    rintro i hi ⟨e, he⟩
    rcases List.mem_cons.1 he with q | q
    · exact absurd (by simpa using (Prod.ext_iff.1 q).1) hi
    · by_cases h0 : kp = true
      · rw [if_pos h0] at q
        refine ⟨h0, ?_⟩
        rcases hp.is with ⟨k1, k2, k3, k4⟩ | ⟨k1, k2, l, m, k3, k4⟩
        · rw [k4] at q; simp at q; exact .inl q.1
        · rw [k4] at q
          rcases List.mem_cons.1 q with q | q
          · exact .inl (by simpa using (Prod.ext_iff.1 q).1)
          · exact .inr ⟨k1, l, e, k3, (cutN_sub q).1, (cutN_sub q).2⟩
      · rw [if_neg h0] at q; simp at q
  have hlt : ∀ i q p, H i = some q → ρ i = some p → p.blk < w.heap.size := fun i q p hi hp => by
    obtain ⟨p', k, _, _, k2⟩ := h.rows i q hi
    rw [hp] at k; simp at k; subst k
    obtain ⟨el, k3⟩ := k2.shape
    exact lt_of_shape k3
  have hgetρ : ∀ i p, i ≠ n → (Env.set ρ n pl') i = some p → ρ i = some p := fun i p e hp => by unfold Env.set at hp; rwa [if_neg e] at hp
  -- each old row, as it was
  have hget : ∀ i q, i ≠ n → (if i = n then some nr else if i = id then some (⟨f, r.exact, r.sz, r.cell, r.ty⟩ : VRow) else H i) = some q → ∃ q', H i = some q' ∧ q'.exact = q.exact ∧ q'.sz = q.sz ∧ q'.cell = q.cell ∧ q'.ty = q.ty ∧ (i ≠ id → q'.fam = q.fam) ∧ (i = id → q' = r ∧ q.fam = f) := by
    intro i q hi hq
    rw [if_neg hi] at hq
    by_cases e : i = id
    · subst e; simp at hq; subst hq
      exact ⟨r, hr, rfl, rfl, rfl, rfl, fun h => absurd rfl h, fun _ => ⟨rfl, rfl⟩⟩
    · rw [if_neg e] at hq
      exact ⟨q, hq, rfl, rfl, rfl, rfl, fun _ => rfl, fun h => absurd h e⟩
  have hFne : ∀ g, g ≠ f → (fun g => if g = f then some ((n, e') :: if kp then l0 else []) else F g) g = F g := fun g hg => by simp [hg]
  -- rows of the family f are those of r's, or r
  have hfam : ∀ i q, H i = some q → q.fam = f → i ≠ id → r.fam ≠ 0 ∧ q.fam = r.fam := by
    intro i q hi hq hne'
    rcases hp.is with ⟨k1, k2, k3, k4⟩ | ⟨k1, k2, _⟩
    · obtain ⟨p, hp'⟩ := h.fams i q hi (by rw [hq]; exact hp.ne)
      rw [hq, k3, k2] at hp'; simp at hp'
    · exact ⟨k1, by rw [hq, k2]⟩
  refine ⟨fun i q hiq => ?_, fun i j ri rj pi pj hij hi1 hj1 hpi hpj hb => ?_, fun i q hiq hq => ?_, fun i q hiq hq l hl e he j c hc => ?_, fun g l hl i hoi => ?_, fun i q hiq hq => ?_, h.glob.mono hm⟩
  · by_cases ei : i = n
    · subst ei; simp at hiq; subst hiq
      exact ⟨pl', Env.set_same, nsz, by rw [nex, nex'], hnew⟩
    · obtain ⟨q', a1, a2, a3, a4, aT, a5, a6⟩ := hget i q ei hiq
      obtain ⟨pi, b1, b2, b3, b4⟩ := h.rows i q' a1
      refine ⟨pi, hm _ _ b1, by rw [b2, a3], by rw [b3, a2], ?_⟩
      -- may it be read now, it might be read
      have hrd' : Rdb (fun g => if g = f then some ((n, e') :: if kp then l0 else []) else F g) i q.fam → Rdb F i q'.fam ∧ (pi.blk = pl.blk → ∀ j c, q'.cell j = some c → pi.base + j < pl.base + hi) := by
        intro hq
        by_cases eid : i = id
        · subst eid
          obtain ⟨c1, c2⟩ := a6 rfl
          subst c1
          rw [hρ] at b1; simp at b1; subst b1
          refine ⟨hrd, fun _ j c hc => ?_⟩
          have hk : kp = true := by
            rcases hq with h0 | ⟨l, h1, h2⟩
            · exact absurd (c2.symm.trans h0) hp.ne
            · rw [c2] at h1
              simp only [if_true, Option.some.injEq] at h1
              rw [← h1] at h2
              exact (hon i ei h2).1
          have := hhi hk j c hc; omega
        · have hf5 := a5 eid
          rcases hq with h0 | ⟨l, h1, h2⟩
          · refine ⟨.inl (by rw [hf5]; exact h0), fun hb => ?_⟩
            obtain ⟨_, _, _, s4, _⟩ := (h.sep i id q' r pi pl eid a1 hr b1 hρ hb).resolve_left fun q => absurd hfl (Nat.not_le_of_lt q.2.1)
            exact absurd (by rw [hf5]; exact h0) s4
          · by_cases eg : q.fam = f
            · simp only [eg, if_true] at h1
              simp at h1; subst h1
              obtain ⟨d1, d2⟩ := hon i ei h2
              obtain ⟨d3, d4⟩ := hfam i q' a1 (by rw [hf5, eg]) eid
              rcases d2 with d5 | ⟨_, l, e, d6, d7, d8⟩
              · exact absurd d5 eid
              · refine ⟨.inr ⟨l, by rw [d4]; exact d6, e, d7⟩, fun hb j c hc => ?_⟩
                obtain ⟨_, _, s3, s4, s5⟩ := (h.sep i id q' r pi pl eid a1 hr b1 hρ hb).resolve_left fun q => absurd hfl (Nat.not_le_of_lt q.2.1)
                have hidon : On id l := by
                  rcases hrd with h0 | ⟨l', h3, h4⟩
                  · exact absurd h0 d3
                  · rw [d6] at h3; simp at h3; rw [h3]; exact h4
                have hbase := s5 l (by rw [s3]; exact d6) ⟨e, d7⟩ hidon
                have := h.ends i q' a1 s4 l (by rw [s3]; exact d6) e d7 j c hc
                omega
            · rw [hFne _ eg] at h1
              refine ⟨.inr ⟨l, by rw [hf5]; exact h1, h2⟩, fun hb => ?_⟩
              obtain ⟨_, _, s3, s4, _⟩ := (h.sep i id q' r pi pl eid a1 hr b1 hρ hb).resolve_left fun q => absurd hfl (Nat.not_le_of_lt q.2.1)
              exfalso
              rcases hp.is with ⟨k1, _⟩ | ⟨_, k2, _⟩
              · exact s4 (s3.trans k1)
              · exact eg (by rw [← hf5, s3, k2])
      by_cases hb : pi.blk = pl.blk
      · refine ⟨by rw [hb, hshape, ← hb]; exact b4.shape, fun k hq o ho => ?_, fun k o => ?_, fun j c hc hq => ?_, fun x hx => by rw [← aT, ← a2, ← a3]; exact b4.typ x (by rw [hb, hshape, ← hb] at hx; exact hx)⟩
        · rw [hb, hfrz, ← hb]; exact b4.free k (hrd' hq).1 o ho
        · rw [hb, hfrz, ← hb]; exact b4.plain (by rw [a2]; exact k) o
        · obtain ⟨m1, m2⟩ := hrd' hq
          rw [← a4] at hc
          obtain ⟨v, v1, v2, v3⟩ := b4.cells j c hc m1
          refine ⟨v, ?_, v2.mono hm, v3⟩
          rw [hb, hcell _ (m2 hb j c hc), ← hb]; exact v1
      · obtain ⟨g1, g2, g3⟩ := same_block (hmem pi.blk (hlt i q' pi a1 b1) hb)
        refine ⟨by rw [g1]; exact b4.shape, fun k hq o ho => by rw [g3]; exact b4.free k (hrd' hq).1 o ho, fun k o => by rw [g3]; exact b4.plain (by rw [a2]; exact k) o, fun j c hc hq => ?_, fun x hx => by rw [← aT, ← a2, ← a3]; exact b4.typ x (by rw [← g1]; exact hx)⟩
        obtain ⟨m1, _⟩ := hrd' hq
        rw [← a4] at hc
        obtain ⟨v, v1, v2, v3⟩ := b4.cells j c hc m1
        exact ⟨v, by rw [g2]; exact v1, v2.mono hm, v3⟩
  · -- no two rows of one block, but on one path
    by_cases ei : i = n <;> by_cases ej : j = n
    · exact absurd (ei.trans ej.symm) hij
    · subst ei; simp at hi1; subst hi1
      rw [Env.set_same] at hpi; simp at hpi; subst hpi
      obtain ⟨q', a1, a2, a3, a4, aT, a5, a6⟩ := hget j rj ej hj1
      have hpj' := hgetρ j pj ej hpj
      rcases hloc with ⟨c1, c2⟩ | c1
      · have hbj : pj.blk = pl.blk := by rw [← hb, c1]
        by_cases eid : j = id
        · subst eid
          obtain ⟨d1, d2⟩ := a6 rfl
          rw [hρ] at hpj'; simp at hpj'; subst hpj'
          refine .inr ⟨hnfl, hfl, by rw [nfam, d2], by rw [nfam]; exact hp.ne, fun l hl _ hoj => ?_⟩
          rw [nfam] at hl; simp at hl; subst hl
          obtain ⟨d3, _⟩ := hon j ej hoj
          rw [c2, hkp d3]; rfl
        · obtain ⟨s1, s2, s3, s4, s5⟩ := (h.sep j id q' r pj pl eid a1 hr hpj' hρ hbj).resolve_left fun q => absurd hfl (Nat.not_le_of_lt q.2.1)
          rcases hp.is with ⟨k1, _⟩ | ⟨k1, k2, _⟩
          · exact absurd (s3.trans k1) s4
          · refine .inr ⟨hnfl, s1, by rw [nfam, ← a5 eid, s3, k2], by rw [nfam]; exact hp.ne, fun l hl _ hoj => ?_⟩
            rw [nfam] at hl; simp at hl; subst hl
            obtain ⟨d3, d4⟩ := hon j ej hoj
            rcases d4 with d5 | ⟨_, l, e, d6, d7, _⟩
            · exact absurd d5 eid
            · have hidon : On id l := by
                rcases hrd with h0 | ⟨l', h3, h4⟩
                · exact absurd h0 k1
                · rw [d6] at h3; simp at h3; rw [h3]; exact h4
              have := s5 l (by rw [s3]; exact d6) ⟨e, d7⟩ hidon
              rw [c2, hkp d3, this]; rfl
      · have := hlt j q' pj a1 hpj'
        rw [← hb, c1] at this; omega
    · subst ej; simp at hj1; subst hj1
      rw [Env.set_same] at hpj; simp at hpj; subst hpj
      obtain ⟨q', a1, a2, a3, a4, aT, a5, a6⟩ := hget i ri ei hi1
      have hpi' := hgetρ i pi ei hpi
      rcases hloc with ⟨c1, c2⟩ | c1
      · have hbi : pi.blk = pl.blk := by rw [hb, c1]
        by_cases eid : i = id
        · subst eid
          obtain ⟨d1, d2⟩ := a6 rfl
          rw [hρ] at hpi'; simp at hpi'; subst hpi'
          refine .inr ⟨hfl, hnfl, by rw [nfam, d2], by rw [d2]; exact hp.ne, fun l hl hoi _ => ?_⟩
          rw [d2] at hl; simp at hl; subst hl
          obtain ⟨d3, _⟩ := hon i ei hoi
          rw [c2, hkp d3]; rfl
        · obtain ⟨s1, s2, s3, s4, s5⟩ := (h.sep i id q' r pi pl eid a1 hr hpi' hρ hbi).resolve_left fun q => absurd hfl (Nat.not_le_of_lt q.2.1)
          rcases hp.is with ⟨k1, _⟩ | ⟨k1, k2, _⟩
          · exact absurd (s3.trans k1) s4
          · refine .inr ⟨s1, hnfl, by rw [nfam, ← a5 eid, s3, k2], by rw [← a5 eid]; exact s4, fun l hl hoi _ => ?_⟩
            rw [← a5 eid, s3, ← k2] at hl; simp at hl; subst hl
            obtain ⟨d3, d4⟩ := hon i ei hoi
            rcases d4 with d5 | ⟨_, l, e, d6, d7, _⟩
            · exact absurd d5 eid
            · have hidon : On id l := by
                rcases hrd with h0 | ⟨l', h3, h4⟩
                · exact absurd h0 k1
                · rw [d6] at h3; simp at h3; rw [h3]; exact h4
              have := s5 l (by rw [s3]; exact d6) ⟨e, d7⟩ hidon
              rw [c2, hkp d3, this]; rfl
      · have := hlt i q' pi a1 hpi'
        rw [hb, c1] at this; omega
    · obtain ⟨q1, a1, a2, a3, a4, _, a5, a6⟩ := hget i ri ei hi1
      obtain ⟨q2, b1, b2, b3, b4, _, b5, b6⟩ := hget j rj ej hj1
      have hpi' := hgetρ i pi ei hpi
      have hpj' := hgetρ j pj ej hpj
      rcases h.sep i j q1 q2 pi pj hij a1 b1 hpi' hpj' hb with q | ⟨s1, s2, s3, s4, s5⟩
      · exact .inl q
      -- the fam of r, if it is one of the two, was not 0
      have hfi : q1.fam = ri.fam := by
        by_cases e : i = id
        · obtain ⟨c1, c2⟩ := a6 e
          subst c1
          rcases hp.is with ⟨k1, _⟩ | ⟨_, k2, _⟩
          · exact absurd k1 s4
          · rw [c2, k2]
        · exact a5 e
      have hfj : q2.fam = rj.fam := by
        by_cases e : j = id
        · obtain ⟨c1, c2⟩ := b6 e
          subst c1
          rcases hp.is with ⟨k1, _⟩ | ⟨_, k2, _⟩
          · exact absurd (s3.trans k1) s4
          · rw [c2, k2]
        · exact b5 e
      refine .inr ⟨s1, s2, by rw [← hfi, ← hfj]; exact s3, by rw [← hfi]; exact s4, fun l hl hoi hoj => ?_⟩
      by_cases eg : ri.fam = f
      · simp only [eg, if_true] at hl
        simp at hl; subst hl
        have hr0 : r.fam ≠ 0 ∧ q1.fam = r.fam := by
          by_cases e : i = id
          · obtain ⟨c1, _⟩ := a6 e
            subst c1; exact ⟨s4, rfl⟩
          · exact hfam i q1 a1 (by rw [hfi, eg]) e
        obtain ⟨lr, hlr⟩ : ∃ l, F r.fam = some l ∧ On id l := by
          rcases hrd with h0 | h1
          · exact absurd h0 hr0.1
          · exact h1
        have onl : ∀ k, k ≠ n → On k ((n, e') :: if kp then l0 else []) → On k lr := by
          intro k hk hok
          rcases (hon k hk hok).2 with d | ⟨_, l, e, d6, d7, _⟩
          · rw [d]; exact hlr.2
          · rw [hlr.1] at d6; simp at d6; rw [d6]; exact ⟨e, d7⟩
        exact s5 lr (by rw [hr0.2]; exact hlr.1) (onl i ei hoi) (onl j ej hoj)
      · replace hl := (hFne _ eg).symm.trans hl
        exact s5 l (by rw [hfi]; exact hl) hoi hoj
  · by_cases ei : i = n
    · subst ei; simp at hiq; subst hiq
      exact ⟨_, if_pos nfam⟩
    · obtain ⟨q', a1, a2, a3, a4, aT, a5, a6⟩ := hget i q ei hiq
      by_cases eg : q.fam = f
      · exact ⟨_, if_pos eg⟩
      · by_cases e : i = id
        · exact absurd (a6 e).2 eg
        · obtain ⟨p, hp'⟩ := h.fams i q' a1 (by rw [a5 e]; exact hq)
          exact ⟨p, (hFne _ eg).trans (by rw [← a5 e]; exact hp')⟩
  · by_cases ei : i = n
    · subst ei; simp at hiq; subst hiq
      rw [nfam] at hl; simp at hl; subst hl
      rcases List.mem_cons.1 he with q' | q'
      · have : e = e' := by simpa using (Prod.ext_iff.1 q').2
        subst this
        exact nend j c hc
      · exfalso
        by_cases h0 : kp = true
        · rw [if_pos h0] at q'
          rcases hp.is with ⟨k1, k2, k3, k4⟩ | ⟨k1, k2, l, m, k3, k4⟩
          · rw [k4] at q'; simp at q'; exact hne q'.1
          · rw [k4] at q'
            rcases List.mem_cons.1 q' with q2 | q2
            · exact hne (by simpa using (Prod.ext_iff.1 q2).1)
            · obtain ⟨x, hx⟩ := h.pmem _ l k3 i ⟨e, (cutN_sub q2).1⟩
              rw [hn] at hx; simp at hx
        · rw [if_neg h0] at q'; simp at q'
    · obtain ⟨q', a1, a2, a3, a4, aT, a5, a6⟩ := hget i q ei hiq
      rw [← a4] at hc
      by_cases eg : q.fam = f
      · rw [eg] at hl; simp at hl; subst hl
        rcases List.mem_cons.1 he with q2 | q2
        · exact absurd (by simpa using (Prod.ext_iff.1 q2).1) ei
        · by_cases h0 : kp = true
          · rw [if_pos h0] at q2
            have hidc : (i, e) = (id, hi) → j < e := by
              intro h3
              have e1 : i = id := (Prod.ext_iff.1 h3).1
              have e2 : e = hi := (Prod.ext_iff.1 h3).2
              obtain ⟨c1, _⟩ := a6 e1
              subst c1
              rw [e2]; exact hhi h0 j c hc
            rcases hp.is with ⟨k1, k2, k3, k4⟩ | ⟨k1, k2, l, m, k3, k4⟩
            · rw [k4] at q2; simp at q2
              exact hidc (by rw [q2.1, q2.2])
            · rw [k4] at q2
              rcases List.mem_cons.1 q2 with q3 | q3
              · exact hidc q3
              · have hq' : q'.fam = r.fam := by
                  by_cases e1 : i = id
                  · rw [(a6 e1).1]
                  · rw [a5 e1, eg, k2]
                exact h.ends i q' a1 (by rw [hq']; exact k1) l (by rw [hq']; exact k3) e (cutN_sub q3).1 j c hc
          · rw [if_neg h0] at q2; simp at q2
      · replace hl := (hFne _ eg).symm.trans hl
        by_cases e1 : i = id
        · exact absurd (a6 e1).2 eg
        · exact h.ends i q' a1 (by rw [a5 e1]; exact hq) l (by rw [a5 e1]; exact hl) e he j c hc
  · by_cases ei : i = n
    · subst ei; exact ⟨_, Env.set_same⟩
    · by_cases eg : g = f
      · subst eg; simp at hl; subst hl
        rcases (hon i ei hoi).2 with d | ⟨_, l, e, d6, d7, _⟩
        · exact ⟨pl, hm _ _ (by rw [d]; exact hρ)⟩
        · obtain ⟨x, hx⟩ := h.pmem _ l d6 i ⟨e, d7⟩
          exact ⟨x, hm _ _ hx⟩
      · replace hl := (hFne _ eg).symm.trans hl
        obtain ⟨x, hx⟩ := h.pmem g l hl i hoi
        exact ⟨x, hm _ _ hx⟩
  · by_cases ei : i = n
    · subst ei; simp at hiq; subst hiq; rw [nex] at hq; simp at hq
    · obtain ⟨q', a1, a2, a3, a4, aT, a5, a6⟩ := hget i q ei hiq
      by_cases e1 : i = id
      · obtain ⟨c1, _⟩ := a6 e1
        subst c1; rw [← a2, hex] at hq; simp at hq
      · rw [← a5 e1]; exact h.exfam i q' a1 (by rw [a2]; exact hq)
end Go.Ex

namespace Go.Ex
variable {sy : Nat → Value} {ρ : Env} {P : Program}

/-- an append that has no room: the new row, and the world -/
theorem grow_ok {w : World} {z n len c : Nat} {cs : List (List AV)} {olds us : List Value} {ao : Option Addr} {t u ty : TypeId} {str : Bool} {y0 : Nat} {x : Value} {id0 : Nat} (hz : elem2 P t u = some (z, str, y0)) (hs : Src P z u x n us w)
    (hch : Ch sy ρ z cs (len + n) (olds ++ us)) (hold : (Builtin.firstCells z len (.slice ao len c)).run P w.drew = .ok olds.toArray w.drew) (hlt : c < len + n) (hle : len + n ≤ 1000000) (hρ : ρ id0 = none) :
    ∃ w' q pl, (Builtin.append_ #[t, u] ty #[.slice ao len c, x]).run P w = .ok q w' ∧ NewAt sy ρ id0 ⟨0, false, z, cs, y0⟩ pl w w' ∧ V sy (Env.set ρ id0 pl) (.slc id0 0 (len + n) (len + n) z) q := by
  obtain ⟨e, i, zv, d, k1, k2, k3, k4, k5, k6, k7, k8, k9⟩ := elem2_inv hz
  simp only at k4 k5 k8 k9
  have hs' : Src P i.size u x n us w := by rw [k5]; exact hs
  have hold' : (Builtin.firstCells i.size len (.slice ao len c)).run P w.drew = .ok olds.toArray w.drew := by rw [k5]; exact hold
  have hnc := nextslicecap_le hlt
  have hfit : Builtin.nextslicecap (len + n) c * i.bytes ≤ 281474976710656 := by
    have : Builtin.nextslicecap (len + n) c * i.bytes ≤ 2000000 * 65536 := Nat.mul_le_mul (by omega) k6
    omega
  have hrun := run_append_grow_src (P := P) w t u ty e i zv k1 k2 k3 ao len c olds hold' x n us hs' hlt (by omega) hfit
  have hg : len + n ≤ grownCap w (len + n) c e := by unfold grownCap; simp [Question.cut]
  obtain ⟨m1, m2⟩ := grown_new (w := w) (e := e) (rest := Builtin.zeroCells zv.cells (grownCap w (len + n) c e - (len + n))) hρ hch hg (by rw [zeroCells_size, k4])
  subst k9
  exact ⟨_, _, _, hrun, m1, m2⟩
theorem room_ok {w : World} {z n len c b o : Nat} {us : List Value} {t u ty : TypeId} {str : Bool} {y0 : Nat} {x : Value} (hz : elem2 P t u = some (z, str, y0)) (hs : Src P z u x n us w) (hroom : len + n ≤ c) (hin : w.there b (o + len * z) us.length) :
    (Builtin.append_ #[t, u] ty #[.slice (some ⟨b, o, none⟩) len c, x]).run P w = .ok (.slice (some ⟨b, o, none⟩) (len + n) c) (w.setCells b (o + len * z) us) := by
  obtain ⟨e, i, zv, d, k1, k2, k3, k4, k5, k6, k7, k8, k9⟩ := elem2_inv hz
  simp only at k4 k5 k8 k9
  have hs' : Src P i.size u x n us w := by rw [k5]; exact hs
  have := run_append_room_src (P := P) w t u ty e i k1 k2 b o len c x n us hs' hroom (fun j hj => by rw [k5]; exact (hin j hj).1) (fun j hj => by rw [k5]; exact (hin j hj).2)
  rw [k5] at this
  exact this
theorem nilnil_ok {w : World} {z : Nat} {us : List Value} {t u ty : TypeId} {str : Bool} {y0 : Nat} {x : Value} (hz : elem2 P t u = some (z, str, y0)) (hs : Src P z u x 0 us w) :
    (Builtin.append_ #[t, u] ty #[.slice none 0 0, x]).run P w = .ok (.slice none 0 0) w := by
  obtain ⟨e, i, zv, d, k1, k2, k3, k4, k5, k6, k7, k8, k9⟩ := elem2_inv hz
  simp only at k4 k5 k8 k9
  have hs' : Src P i.size u x 0 us w := by rw [k5]; exact hs
  rcases hs'.kind with ⟨e', hk⟩ | hk <;> simp [Builtin.append_, run_underlying k1, run_underlying hk, sizeOf, typeInfo, k2, hs'.len, hs'.cells]
theorem firstCells_at {w : World} {z len c : Nat} {a : Addr} {olds : List Value} (hl : olds.length = len * z) (h : ∀ j u, olds[j]? = some u → w.cell? (a.add j) = some u) :
    (Builtin.firstCells z len (.slice (some a) len c)).run P w.drew = .ok olds.toArray w.drew :=
  run_firstCells_some w.drew z len a len c olds hl (by simpa using h)
/-- a slice's elements, at its address -/
theorem slc_cells {s : St} {w : World} {z id off len cap y c o : Nat} {l : List (List AV)} {pl : Pl} (hS : SatS sy ρ s w) (h : elemsN s z id off len = some l) (hp : ρ id = some pl) (hok : slcOk pl off len cap y c) (ho : c ≠ 0 → o = pl.base + off) :
    ∃ olds, Ch sy ρ z l len olds ∧ ∀ (j : Nat) u, olds[j]? = some u → w.cell? ((⟨pl.blk, o, none⟩ : Addr).add j) = some u := by
  obtain ⟨us, c1, c2⟩ := elemsN_at hS h
  refine ⟨us, c1, fun j u hj => ?_⟩
  have hn0 : len ≠ 0 := by
    intro h0
    have := c1.vlen
    rw [h0] at this
    have := (List.getElem?_eq_some_iff.1 hj).1
    omega
  obtain ⟨pl', k1, k2, k3⟩ := c2 hn0
  rw [hp] at k1; simp at k1; subst k1
  have ho' := ho (by have := hok.1; have := hok.2.1; omega)
  subst ho'
  rw [addr_add]
  exact k3 j u hj
theorem famOf_path {s : St} {row : Row} {id hi : Nat} {p : Nat × List (Nat × Nat)} (h : famOf s row.fam id hi = some p) (hn : s.next ≠ 0) : Path s.fams.get id s.next hi row.v p.1 p.2 := by
  unfold famOf at h
  split at h
  · rename_i hf
    split at h
    · rename_i hq
      simp at h; subst h
      exact ⟨.inl ⟨hf, hq, rfl, rfl⟩, hn⟩
    · simp at h
  · rename_i hf
    simp only [ob_some] at h
    obtain ⟨l, h1, h2⟩ := h
    simp at h2; subst h2
    have hf' : row.fam ≠ 0 := hf
    exact ⟨.inr ⟨hf', rfl, l, 16, h1, rfl⟩, hf'⟩
theorem NewAt.rowAt {n : Nat} {row : Row} {pl : Pl} {w w' : World} (h : NewAt sy ρ n row pl w w') (F : FV) (fl : Nat) (fam y : Nat) (hy : y = 0 ∨ y = row.ty) : RowAt sy (Env.set ρ n pl) F fl w' n ⟨fam, row.exact, row.sz, cellAt row, y⟩ pl := by
  obtain ⟨arr, el, lo, hi, m1, m2, m3, m4, m5⟩ := h.mem
  have hnew : w'.heap[pl.blk]? = some (.cells arr el (lo, hi)) := by rw [m1, h.blk]; simp
  have hty := h.typ arr el (lo, hi) m1
  refine ⟨⟨el, ?_⟩, fun _ _ o ho => ?_, fun q o => ?_, fun j c hc _ => ?_, fun x hx => ?_⟩
  · unfold World.shape?; rw [hnew]; show some (el, arr.size) = _; rw [m2]
  · unfold World.frozen?; rw [hnew]
    show (decide (lo ≤ o) && decide (o < hi)) = false
    have := m3 o ho
    simp only [Bool.and_eq_false_iff, decide_eq_false_iff_not]
    by_cases h1 : lo ≤ o
    · exact .inr (fun h2 => this ⟨h1, h2⟩)
    · exact .inl h1
  · unfold World.frozen?; rw [hnew]
    show (decide (lo ≤ o) && decide (o < hi)) = false
    have := m4 q o
    simp only [Bool.and_eq_false_iff, decide_eq_false_iff_not]
    by_cases h1 : lo ≤ o
    · exact .inr (fun h2 => this ⟨h1, h2⟩)
    · exact .inl h1
  · obtain ⟨v, k1, k2⟩ := m5 j c hc
    exact ⟨v, by unfold World.cell?; rw [hnew]; exact k1, k2⟩
  · unfold World.shape? at hx; rw [hnew] at hx; simp at hx; subst hx
    rcases hy with q | q
    · exact .inl q
    · rcases hty with q' | ⟨q', q2⟩
      · exact .inl (q.trans q')
      · exact .inr (.inl ⟨⟨q.trans q'.1, q'.2⟩, q2⟩)
theorem cellAt_lt {row : Row} {j : Nat} {c : AV} (hw : ∀ (q : Nat) ch, row.cs[q]? = some ch → ch.length = row.sz) (h : cellAt row j = some c) : j < row.cs.length * row.sz := by
  unfold cellAt at h
  cases hq : row.cs[j / row.sz]? with
  | none => rw [hq] at h; simp at h
  | some ch =>
    rw [hq] at h
    have h1 := (List.getElem?_eq_some_iff.1 hq).1
    have h2 : j % row.sz < ch.length := (List.getElem?_eq_some_iff.1 (show ch[j % row.sz]? = some c from h)).1
    rw [hw _ _ hq] at h2
    have h3 := Nat.div_add_mod j row.sz
    have h4 : (j / row.sz + 1) * row.sz ≤ row.cs.length * row.sz := Nat.mul_le_mul_right _ h1
    rw [Nat.succ_mul, Nat.mul_comm] at h4
    omega
theorem keepP_inv {off len z : Nat} {row : Row} (h : keepP off len z row = true) : off = 0 ∧ off + len * z = row.cs.length * row.sz := by
  unfold keepP at h
  simp only [Bool.and_eq_true] at h
  rw [lenL_eq] at h
  exact ⟨Nat.eq_of_beq_eq_true h.1, Nat.eq_of_beq_eq_true h.2⟩
/-- the book and the memory behind an append whose place is not known -/
theorem share_out {s : St} {w w' : World} {id off len z need : Nat} {row : Row} {cs : List (List AV)} {p : Nat × List (Nat × Nat)} {pl pl2 : Pl} (hS : SatS sy ρ s w) (h2 : s.heap.get id = some row) (hρ : ρ id = some pl) (hfl : s.floor ≤ id) (hn : ρ s.next = none) (hnf : s.floor ≤ s.next)
    (hex : row.exact = false) (hrd : Rdb s.fams.get id row.fam) (_hsz : row.sz = z) (h6 : famOf s row.fam id (off + len * z) = some p) (hcl : cs.length = need) (hce : ∀ ch ∈ cs, ch.length = z)
    (nsz : pl2.sz = z) (nex : pl2.exact = false) (hmem : ∀ b, b < w.heap.size → b ≠ pl.blk → w'.heap[b]? = w.heap[b]?) (hshape : w'.shape? pl.blk = w.shape? pl.blk) (hfrz : ∀ o, w'.frozen? ⟨pl.blk, o, none⟩ = w.frozen? ⟨pl.blk, o, none⟩)
    (hcell : ∀ j, j < pl.base + (off + len * z) → w'.cell? ⟨pl.blk, j, none⟩ = w.cell? ⟨pl.blk, j, none⟩) (hloc : (pl2.blk = pl.blk ∧ pl2.base = pl.base + off) ∨ pl2.blk = w.heap.size)
    (hnew : ∀ F, RowAt sy (Env.set ρ s.next pl2) F s.floor w' s.next ⟨p.1, false, z, cellAt ⟨p.1, false, z, cs, bi (Nat.beq off 0) row.ty 0⟩, bi (Nat.beq off 0) row.ty 0⟩ pl2) (hsize : w.heap.size ≤ w'.heap.size) (hos : w'.os = w.os) (htape : w'.tape = w.tape) (hout : w'.output = w.output) :
    Out sy ρ s w (Env.set ρ s.next pl2) ⟨(s.heap.set id ⟨p.1, row.exact, row.sz, row.cs, row.ty⟩).set s.next ⟨p.1, false, z, cs, bi (Nat.beq off 0) row.ty 0⟩, s.fams.set p.1 ((s.next, Nat.mul need z) :: bi (keepP off len z row) p.2 []), Nat.succ s.next, s.floor⟩ w' := by
  have hn0 : s.next ≠ 0 := by
    intro h0
    obtain ⟨q, hq, _⟩ := hS.sat.glob 0 (by omega)
    rw [h0, hq] at hn; simp at hn
  have hne : s.next ≠ id := fun e => by rw [e, hρ] at hn; simp at hn
  have hpath := famOf_path h6 hn0
  have hwrow := hS.wf id row h2
  have hsh := hS.sat.share (r := row.v) (nr := ⟨p.1, false, z, cellAt ⟨p.1, false, z, cs, bi (Nat.beq off 0) row.ty 0⟩, bi (Nat.beq off 0) row.ty 0⟩) (pl' := pl2) (off := off) (e' := Nat.mul need z) (w' := w') (hv_some.2 ⟨row, h2, rfl⟩) hρ hfl hn hnf hex hrd hpath
    (kp := keepP off len z row) (fun hk => (keepP_inv hk).1) (fun hk j c hc => by rw [(keepP_inv hk).2]; exact cellAt_lt hwrow hc) rfl rfl nsz nex (fun j c hc => by
      have hc' : cellAt ⟨p.1, false, z, cs, bi (Nat.beq off 0) row.ty 0⟩ j = some c := hc
      have := cellAt_lt (row := ⟨p.1, false, z, cs, bi (Nat.beq off 0) row.ty 0⟩) (fun q ch hq => hce ch (List.mem_of_getElem? hq)) hc'
      show j < need * z
      rw [← hcl]; exact this) hmem hshape hfrz hcell hloc (hnew _)
  have hnone : s.heap.get s.next = none := by
    cases hq : s.heap.get s.next with
    | none => rfl
    | some r =>
      obtain ⟨p', k, _⟩ := hS.sat.rows s.next r.v (hv_some.2 ⟨r, hq, rfl⟩)
      rw [hn] at k; simp at k
  refine ⟨⟨Nat.le_succ _, rfl, fun i hi hr => ?_, fun _ hi _ => hi⟩, ⟨hsize, hos, htape, hout, fun b hb ho => hmem b hb (fun e => ho (.inl ⟨id, row, pl, hfl, h2, hρ, e.symm⟩)), Env.set_mono hn, fun i q hq hi => ?_⟩, ⟨?_, ?_, Nat.le_succ_of_le hS.fln, hS.maps.keep (Env.set_mono hn) fun b es c hb => ?_⟩⟩
  · simp only [T.get_set]
    rw [if_neg (by rcases hr with q | q; omega; exact fun e => by subst e; exact absurd q (Nat.not_succ_le_self _)), if_neg (by intro e; subst e; rw [h2] at hi; simp at hi)]
    exact hi
  · unfold Env.set at hq
    split at hq
    · rename_i e; subst e
      simp at hq; subst hq
      refine ⟨⟨Nat.le_refl _, Nat.lt_succ_self _⟩, ?_⟩
      rcases hloc with ⟨c1, _⟩ | c1
      · exact .inr (.inl ⟨id, row, pl, hfl, h2, hρ, c1.symm⟩)
      · exact .inl (Nat.le_of_eq c1.symm)
    · rw [hi] at hq; simp at hq
  · refine hsh.ext (fun i => ?_) (fun g => ?_)
    · unfold St.hv
      simp only [T.get_set]
      split
      · rfl
      · split <;> rfl
    · simp only [FM.get_set]
      split
      · rename_i e
        rw [bi_eq]
      · rfl
  · intro i r hi q ch hq
    simp only [T.get_set] at hi
    split at hi
    · simp at hi; subst hi
      exact hce ch (List.mem_of_getElem? hq)
    · split at hi
      · simp at hi; subst hi
        exact hwrow q ch hq
      · exact hS.wf i r hi q ch hq
  · obtain ⟨p', k1, k2, k3, k4⟩ := hS.sat.rows id row.v (hv_some.2 ⟨row, h2, rfl⟩)
    rw [hρ] at k1; simp at k1; subst k1
    obtain ⟨el, k5⟩ := k4.shape
    rw [hmem b (Array.getElem?_eq_some_iff.1 hb).1 (fun e => by subst e; rw [shape_map hb] at k5; simp at k5)]
    exact hb
/-- an append, whatever is appended -/
theorem appendS_ok {s s' : St} {w : World} {z n : Nat} {base r : AV} {new : List (List AV)} {v x : Value} {us : List Value} {t u ty : TypeId} {str : Bool} {y0 : Nat} (hS : SatS sy ρ s w) (hz : elem2 P t u = some (z, str, y0)) (hc : Ch sy ρ z new n us) (hs : Src P z u x n us w)
    (hb : V sy ρ base v) (h : appendS s z y0 base new n = some (r, s')) (hfr : Fresh ρ s.next s'.next) :
    ∃ ρ' w' q, (Builtin.append_ #[t, u] ty #[v, x]).run P w = .ok q w' ∧ Out sy ρ s w ρ' s' w' ∧ V sy ρ' r q := by
  unfold appendS at h
  split at h
  · -- of nil
    rw [show v = _ from hb]
    split at h
    · simp at h
      obtain ⟨rfl, rfl⟩ := h
      exact ⟨ρ, w, .slice none 0 0, nilnil_ok hz hs, .refl hS, rfl⟩
    · rename_i hn0
      rw [bi_some] at h
      obtain ⟨h1, h2⟩ := h
      simp at h1 h2
      obtain ⟨rfl, rfl⟩ := h2
      have hρ : ρ s.next = none := hfr _ (Nat.le_refl _) (Nat.lt_succ_self _)
      have hn0' : n ≠ 0 := hn0
      obtain ⟨w', q, pl, k1, k2, k3⟩ := grow_ok (ty := ty) (ao := none) (len := 0) (c := 0) (olds := []) hz hs (by simpa using hc) (by simp [Builtin.firstCells]) (by omega) (by omega) hρ
      exact ⟨_, w', q, k1, addRow_out hS hρ k2, by simpa using k3⟩
  · rename_i id off len cap yq
    obtain ⟨pl, c, o, e1, hok, ho, rfl⟩ := hb
    rw [bi_eq] at h
    split at h
    · -- room, for sure
      rename_i hroom
      simp only [ob_some] at h
      obtain ⟨s1, h1, h2⟩ := h
      simp at h2
      obtain ⟨rfl, rfl⟩ := h2
      have hroom' : len + n ≤ cap := by simpa using hroom
      have hrc : len + n ≤ c := Nat.le_trans hroom' hok.2.1
      have hV : ∀ o', (c ≠ 0 → o' = pl.base + off) → V sy ρ (.slc id off (len + n) cap yq) (.slice (some ⟨pl.blk, o', none⟩) (len + n) c) := fun o' ho' => ⟨pl, c, o', e1, ⟨hroom', hok.2.1, hok.2.2.1, hok.2.2.2⟩, ho', rfl⟩
      rcases storeEls_out hS h1 hc with ⟨k1, k2, k3⟩ | ⟨pl', k1, k2, k3, k4⟩
      · subst k1 k2 k3
        have hn : n = 0 := hc.len.symm
        exact ⟨ρ, _, _, room_ok hz hs hrc (fun j hj => by simp at hj), .refl hS, hV o ho⟩
      · rw [e1] at k1; simp at k1; subst k1
        by_cases hc0 : c = 0
        · have hn : n = 0 := by omega
          have hus : us = [] := List.eq_nil_of_length_eq_zero (by rw [hc.vlen, hn]; simp)
          subst hus
          exact ⟨ρ, _, _, room_ok hz hs hrc (fun j hj => by simp at hj), k3, hV o ho⟩
        · have ho' := ho hc0
          subst ho'
          have e2 : pl.base + Nat.add off (Nat.mul len z) = pl.base + off + len * z := by show pl.base + (off + len * z) = _; omega
          rw [e2] at k2 k3
          exact ⟨ρ, _, _, room_ok hz hs hrc k2, k3, hV _ ho⟩
    · -- anew, or not known
      rename_i hroom
      have hroom' : cap < len + n := by simpa using hroom
      simp only [appendN, ob_some, bi_some] at h
      obtain ⟨old, h1, row, h2, h3, h4⟩ := h
      have h3' : len + n ≤ 1000000 := by simpa using h3
      obtain ⟨olds, c1, c2⟩ := slc_cells hS h1 e1 hok ho
      have hch : Ch sy ρ z (old ++ new) (len + n) (olds ++ us) := c1.app hc
      have hold := firstCells_at (P := P) (c := c) c1.vlen c2
      obtain ⟨pl', g1, g2, g3, g4⟩ := hS.sat.rows id row.v (hv_some.2 ⟨row, h2, rfl⟩)
      rw [e1] at g1; simp at g1; subst g1
      rw [bi_eq] at h4
      split at h4
      · -- the row is all that there is
        rename_i hex
        simp at h4
        obtain ⟨rfl, rfl⟩ := h4
        have hcc : c = cap := hok.2.2.1 (by rw [g3]; exact hex)
        have hρ : ρ s.next = none := hfr _ (Nat.le_refl _) (Nat.lt_succ_self _)
        rw [app_eq] at *
        obtain ⟨w', q, pl2, k1, k2, k3⟩ := grow_ok (ty := ty) hz hs hch hold (by omega) h3' hρ
        exact ⟨_, w', q, k1, addRow_out hS hρ k2, k3⟩
      · rename_i hex
        have hex' : row.exact = false := by simpa using hex
        simp only [appendU, bi_some, ob_some] at h4
        obtain ⟨h5, p, h6, h7⟩ := h4
        simp at h5 h7
        obtain ⟨hyy, h8, h9, h10⟩ := h5
        obtain ⟨rfl, rfl⟩ := h7
        have hρ : ρ s.next = none := hfr _ (Nat.le_refl _) (Nat.lt_succ_self _)
        rw [app_eq] at *
        have hrd := readable_Rdb h9
        have hnf : s.floor ≤ s.next := hS.fln
        by_cases hrc : len + n ≤ c
        · -- behind the row's end
          have hc0 : c ≠ 0 := by omega
          have ho' := ho hc0
          subst ho'
          obtain ⟨y1, y2⟩ := hok.2.2.2 (by rw [g3]; exact hex')
          have hsz : pl.sz = z := by rw [g2]; exact h10
          rw [hsz] at y2
          have hle : (len + n) * z ≤ c * z := Nat.mul_le_mul_right z hrc
          have hul : us.length = n * z := hc.vlen
          have hnz : (len + n) * z = len * z + n * z := Nat.add_mul _ _ _
          obtain ⟨el, hsh⟩ := g4.shape
          have hin : w.there pl.blk (pl.base + off + len * z) us.length := fun j hj =>
            ⟨(cell_of_shape hsh _).2 (by omega), g4.free h8 hrd _ (by omega)⟩
          have hrun := room_ok (ty := ty) hz hs hrc hin
          obtain ⟨q1, q2, q3, q4⟩ := world_setCells pl.blk us (pl.base + off + len * z) w
          refine ⟨_, _, _, hrun, share_out (pl2 := ⟨pl.blk, pl.base + off, pl.size, false, z⟩) hS h2 e1 h8 hρ hnf hex' hrd h10 h6 hch.len hch.each rfl rfl (fun b _ hb => block_setCells _ _ hb us _ w) (shape_setCells _ _ _ _ _) (fun o => World.frozen?_setCells _ _ _ _ _)
            (fun j hj => World.cell?_setCells_out _ _ _ _ _ (fun _ _ => by left; show j < _; omega)) (.inl ⟨rfl, rfl⟩) (fun F => ⟨⟨el, by rw [shape_setCells]; exact hsh⟩, fun _ _ o ho => by rw [World.frozen?_setCells]; exact g4.free h8 hrd o ho, fun q => by simp at q, fun j c' hc' _ => ?_, fun x hx => by
              have q0 : row.ty = 0 ∨ (row.ty = x.1 + 1 ∧ x.1 < 1000000) ∧ pl.base = 0 ∧ (row.exact = true → pl.size = row.sz) ∨ row.ty = 1099511627776 ∧ pl.base = 0 ∧ pl.size = row.sz := g4.typ x (by rw [shape_setCells] at hx; exact hx)
              rw [bi_eq]
              by_cases ho0 : off = 0
              · subst ho0
                exact q0.imp (fun q => by simpa using q) (Or.imp (fun q => ⟨⟨by simpa using q.1.1, q.1.2⟩, by simpa using q.2.1, fun q => by simp at q⟩) fun q => ⟨by simpa using q.1, by simpa using q.2.1, by show pl.size = z; rw [q.2.2]; assumption⟩)
              · exact .inl (if_neg (by simpa using ho0))⟩) (Nat.le_of_eq q1.symm) q2 q3 q4, ?_⟩
          · have hc2 : cellAt ⟨p.1, false, z, old ++ new, bi (Nat.beq off 0) row.ty 0⟩ j = some c' := hc'
            rw [cellAt_flat hch.each] at hc2
            obtain ⟨v, v1, v2⟩ := hch.vals.get hc2
            refine ⟨v, ?_, v2.mono (Env.set_mono hρ), hch.flat v (List.mem_of_getElem? v1)⟩
            show (w.setCells pl.blk (pl.base + off + len * z) us).cell? ⟨pl.blk, pl.base + off + j, none⟩ = some v
            by_cases hj : j < len * z
            · rw [World.cell?_setCells_out _ _ _ _ _ (fun _ _ => by left; show pl.base + off + j < _; omega)]
              rw [List.getElem?_append_left (by rw [c1.vlen]; exact hj)] at v1
              have := c2 j v v1
              rwa [addr_add] at this
            · rw [List.getElem?_append_right (by rw [c1.vlen]; omega), c1.vlen] at v1
              have hju := (List.getElem?_eq_some_iff.1 v1).1
              have := World.cell?_setCells_in pl.blk us (pl.base + off + len * z) w (fun k hk => (hin k hk).1) (j - len * z) hju
              rw [show pl.base + off + len * z + (j - len * z) = pl.base + off + j from by omega] at this
              rw [this]
              rw [List.getElem?_eq_getElem hju] at v1
              exact v1
          · exact ⟨_, c, _, Env.set_same, ⟨Nat.le_refl _, hrc, fun h => by simp at h, fun _ => ⟨rfl, by show pl.base + off + 0 + c * z ≤ pl.size; omega⟩⟩, fun _ => rfl, rfl⟩
        · obtain ⟨w', q, pl2, k1, k2, k3⟩ := grow_ok (ty := ty) hz hs hch hold (by omega) h3' hρ
          obtain ⟨arr, el, lo, hi, m1, m2, m3, m4, m5⟩ := k2.mem
          have hblt : pl.blk < w.heap.size := by obtain ⟨el', hsh⟩ := g4.shape; exact lt_of_shape hsh
          have hold' : ∀ b, b < w.heap.size → w'.heap[b]? = w.heap[b]? := fun b hb => by rw [m1, Array.getElem?_push, if_neg (by omega)]
          obtain ⟨x1, x2, x3⟩ := same_block (hold' pl.blk hblt)
          exact ⟨_, w', q, k1, share_out (pl2 := pl2) hS h2 e1 h8 hρ hnf hex' hrd h10 h6 hch.len hch.each k2.sz k2.exact (fun b hb _ => hold' b hb) x1 x3 (fun j _ => x2 j) (.inr k2.blk) (fun F => k2.rowAt F s.floor p.1 (bi (Nat.beq off 0) row.ty 0) (by rw [bi_eq]; split; exact hyy; exact .inl rfl)) (by rw [m1]; simp) k2.os k2.tape k2.output, k3⟩
  · simp at h
end Go.Ex

namespace Go.Ex
variable {sy : Nat → Value} {ρ : Env} {P : Program}

theorem srcD_inv {d : TypeDesc} {b : Bool} (h : srcD d = some b) : (b = false ∧ ∃ e, d = .slice e) ∨ (b = true ∧ d = .string) := by
  cases d <;> simp [srcD] at h
  · exact .inr ⟨h, rfl⟩
  · exact .inl ⟨h, _, rfl⟩
theorem zerosT_inv {ts : Array TypeId} (h : zerosT P ts = true) : ∃ t u k, ts = #[t, u] ∧ P.underlying u = some (.int k) := by
  obtain ⟨l⟩ := ts
  unfold zerosT at h
  split at h
  · rename_i t u he
    simp at he; subst he
    split at h
    · rename_i d hd
      cases d <;> simp [isIntD] at h
      rename_i k
      exact ⟨t, u, k, rfl, hd⟩
    · simp at h
  · simp at h
theorem zElem_inv {t : TypeId} {q : Nat × Nat × List AV} (h : zElem P t = some q) : ∃ e i zv, P.underlying t = some (.slice e) ∧ P.info? e = some i ∧ i.zero = some zv ∧ i.size = q.1 ∧ i.bytes ≤ 65536 ∧ q.2.1 = tyN e ∧ VL sy ρ q.2.2 zv.cells.toList ∧ (∀ x ∈ zv.cells.toList, Flat x) ∧ q.2.2.length = q.1 := by
  simp only [zElem, ob_some, bi_some] at h
  obtain ⟨e, h1, w, h2, h3, zv, h4, zc, h9, n, h5, h8⟩ := h
  simp at h8; subst h8
  obtain ⟨k0, k8⟩ := sized_inv h5
  obtain ⟨i, k1, k2⟩ := bytes_run h2
  obtain ⟨i', k3, k4⟩ := size_info k0
  obtain ⟨i'', u', k5, k6, k7⟩ := zero_info h4
  rw [k1] at k3 k5
  simp at k3 k5; subst k3; subst k5
  have hz := (conv_V (sy := sy) (ρ := ρ) k7).cells h9
  exact ⟨e, i, u', elem_und h1, k1, k6, k4, by rw [k2]; simpa using h3, rfl, hz.1, hz.2, k8⟩
theorem bAppZ_run {x y : Operand} {ts : Array TypeId} {tm : T AV} {a : Act} {s s' : St} {v : AV} {w : World} {ty : TypeId} (hz : zerosT P ts = true) (hS : SatS sy ρ s w) (ht : TM sy ρ tm a) (hfr : Fresh ρ s.next s'.next) (h : bAppZ x y ts P tm s = some (v, s')) :
    ∃ ρ' w' q, (Builtin.append_ ts ty #[a.eval x, a.eval y]).run P w = .ok q w' ∧ Out sy ρ s w ρ' s' w' ∧ V sy ρ' v q := by
  obtain ⟨t, u, kn, rfl, hu⟩ := zerosT_inv hz
  simp only [bAppZ, ob_some] at h
  obtain ⟨t', h1, q, h2, vx, h3, vy, h4, h5⟩ := h
  simp at h1; subst h1
  obtain ⟨e, i, zv, k1, k2, k3, k4, k5, k6, k7, k8, k9⟩ := zElem_inv (sy := sy) (ρ := ρ) h2
  have hb := ev_V hS.sat.glob ht h3
  have hy := ev_V hS.sat.glob ht h4
  unfold zAppend at h5
  split at h5
  · simp only [ob_some, bi_some, Option.some.injEq, Prod.mk.injEq] at h5
    obtain ⟨n, h6, h7, rfl, rfl⟩ := h5
    simp only [Bool.and_eq_true] at h7
    obtain ⟨g1, g2, g3⟩ := h7
    have g1' : 1 ≤ n := by simpa using g1
    have g2' : n ≤ 1000000 := by simpa using g2
    have g3' : 1 ≤ q.1 := by simpa using g3
    obtain ⟨k, ey⟩ := asNat_V h6 hy
    have hb' : a.eval x = .slice none 0 0 := hb
    have hρ : ρ s.next = none := hfr _ (Nat.le_refl _) (Nat.lt_succ_self _)
    have hrun := Lib.run_append_nil_zeros (P := P) w t u ty e i zv k kn k1 hu k2 k3 n (by omega) (by omega) (by omega) (by
      have : n * i.bytes ≤ 1000000 * 65536 := Nat.mul_le_mul g2' k5
      omega)
    have hzs : zv.cells.size = q.1 := by rw [← k9, ← k7.length]; simp
    have hch := zeros_Ch (n := n) k7 k8 k9
    rw [if_neg (Nat.mul_ne_zero (by omega) (by omega))] at hch
    have hcells : (Array.range (n * q.1)).map (zv.cells[· % zv.cells.size]!) = Builtin.zeroCells zv.cells n := by
      unfold Builtin.zeroCells; rw [hzs]
    rw [hcells] at hch
    have hg : n ≤ grownCap w n 0 e := by unfold grownCap; simp [Question.cut]
    obtain ⟨m1, m2⟩ := grown_new (w := w) (e := e) (rest := Builtin.zeroCells zv.cells (grownCap w n 0 e - n)) hρ hch hg (by rw [zeroCells_size, hzs])
    rw [repL_eq, k6, hb', ey]
    exact ⟨_, _, _, hrun, addRow_out hS hρ m1, m2⟩
  · simp at h5
theorem bApp_ok (call : CallR) (c : Call) (x y : Operand) (hc : c.callee = .builtin .append) (hx : c.args = #[x, y]) : EffOk sy P call (.call c) (bApp x y c.argTypes) := by
  intro ρ tm a s s' v w o K Q ho hS ht hfr h hK
  unfold bApp at h
  rw [bi_eq] at h
  split at h
  · rename_i hz
    obtain ⟨ρ', w', q, r1, r2, r3⟩ := bAppZ_run (ty := o.type) hz hS ht hfr h
    unfold Oper.wp
    have hrun : (execOp a.eval o).run P w = .ok (.value q) w' := by
      simp [execOp, ho, resolve, hc, hx, invoke, builtin, r1]
    rw [hrun]
    exact hK ρ' w' q r2 r3
  simp only [bAppN, ob_some] at h
  obtain ⟨zs, h1, vx, h2, vy, h3, h4⟩ := h
  obtain ⟨t, u, e1, e2⟩ := elem0_inv h1
  obtain ⟨z, str, y0⟩ := zs
  have e2' := e2
  obtain ⟨e, i, zv, d, k1, k2, k3, k4, k5, k6, k7, k8, k9⟩ := elem2_inv e2'
  simp only at h4 k4 k5 k8
  have hb := ev_V hS.sat.glob ht h2
  have hy := ev_V hS.sat.glob ht h3
  have key : ∃ ρ' w' q, (Builtin.append_ #[t, u] o.type #[a.eval x, a.eval y]).run P w = .ok q w' ∧ Out sy ρ s w ρ' s' w' ∧ V sy ρ' v q := by
    unfold appendV at h4
    split at h4
    · rename_i n b
      simp only [bi_some] at h4
      obtain ⟨h5, h6⟩ := h4
      simp at h5
      obtain ⟨rfl, rfl⟩ := h5
      rcases srcD_inv k8 with ⟨q, _⟩ | ⟨_, q⟩
      · simp at q
      · rw [q] at k7
        obtain ⟨us, c1, c2⟩ := src_string (P := P) (w := w) k7 hy
        exact appendS_ok hS e2 c1 c2 hb h6 hfr
    · rename_i n
      simp only [bi_some] at h4
      obtain ⟨h5, h6⟩ := h4
      simp at h5
      obtain ⟨rfl, rfl, -⟩ := h5
      rcases srcD_inv k8 with ⟨q, _⟩ | ⟨_, q⟩
      · simp at q
      · rw [q] at k7
        obtain ⟨us, c1, c2⟩ := src_anys (P := P) (w := w) k7 hy
        exact appendS_ok hS e2 c1 c2 hb h6 hfr
    · rw [bi_eq] at h4
      split at h4
      · simp at h4
      · rename_i hstr
        have hstr' : str = false := by simpa using hstr
        subst hstr'
        rcases srcD_inv k8 with ⟨_, e', q⟩ | ⟨q, _⟩
        · rw [q] at k7
          rw [show a.eval y = _ from hy]
          exact appendS_ok hS e2 Ch.nil (Src.ofNil w k7 0) hb h4 hfr
        · simp at q
    · rename_i id off n cap y'
      rw [bi_eq] at h4
      split at h4
      · simp at h4
      · rename_i hstr
        have hstr' : str = false := by simpa using hstr
        subst hstr'
        simp only [ob_some] at h4
        obtain ⟨l, h5, h6⟩ := h4
        rcases srcD_inv k8 with ⟨_, e', q⟩ | ⟨q, _⟩
        · rw [q] at k7
          obtain ⟨us, c1, c2⟩ := src_slice (P := P) hS k7 h5 hy
          exact appendS_ok hS e2 c1 c2 hb h6 hfr
        · simp at q
    · simp at h4
  obtain ⟨ρ', w', q, r1, r2, r3⟩ := key
  unfold Oper.wp
  have hrun : (execOp a.eval o).run P w = .ok (.value q) w' := by
    simp [execOp, ho, resolve, hc, hx, e1, invoke, builtin, r1]
  rw [hrun]
  exact hK ρ' w' q r2 r3

/-! copy -/
theorem copy_run {w : World} {z n len c m : Nat} {us : List Value} {ao : Option Addr} {t u ty : TypeId} {str : Bool} {y0 : Nat} {x : Value} (hz : elem2 P t u = some (z, str, y0)) (hlen : ∀ w' : World, (Builtin.lenOf x).run P w' = .ok m w') (hn : n = Nat.min m len)
    (hcells : (Builtin.firstCells z n x).run P w = .ok us.toArray w) (hone : ∀ v ∈ us, v.oneCell' = true) (b o : Nat) (hao : (ao = none ∧ us = []) ∨ (ao = some ⟨b, o, none⟩ ∧ w.there b o us.length)) :
    (Builtin.copy_ #[t, u] ty #[.slice ao len c, x]).run P w = .ok (.int .i64 (n : Int)) (w.setCells b o us) := by
  obtain ⟨e, i, zv, d, k1, k2, k3, k4, k5, k6, k7, k8, k9⟩ := elem2_inv hz
  simp only at k4 k5 k8
  subst hn
  rcases hao with ⟨rfl, rfl⟩ | ⟨rfl, hin⟩
  · simp [Builtin.copy_, run_underlying k1, hlen, sizeOf, typeInfo, k2, k5, hcells, goInt, World.setCells]
  · have hst := run_storeCells_cells (P := P) b o us 0 w (fun j hj => by simpa using (hin j hj).1) (fun j hj => by simpa using (hin j hj).2) hone
    simp only [Nat.add_zero] at hst
    simp [Builtin.copy_, run_underlying k1, hlen, sizeOf, typeInfo, k2, k5, hcells, goInt, hst]
theorem bCopy_ok (call : CallR) (c : Call) (x y : Operand) (hc : c.callee = .builtin .copy) (hx : c.args = #[x, y]) : EffOk sy P call (.call c) (bCopy x y c.argTypes) := by
  intro ρ tm a s s' v w o K Q ho hS ht hfr h hK
  simp only [bCopy, ob_some] at h
  obtain ⟨zs, h1, vx, h2, vy, h3, h4⟩ := h
  obtain ⟨t, u, e1, e2⟩ := elem0_inv h1
  obtain ⟨z, str, y0⟩ := zs
  have e2' := e2
  obtain ⟨e, i, zv, d, k1, k2, k3, k4, k5, k6, k7, k8, k9⟩ := elem2_inv e2'
  simp only at h4 k4 k5 k8
  have hb := ev_V hS.sat.glob ht h2
  have hy := ev_V hS.sat.glob ht h3
  have fin : ∀ q w', (Builtin.copy_ #[t, u] o.type #[a.eval x, a.eval y]).run P w = .ok q w' → Out sy ρ s w ρ s' w' → V sy ρ v q → o.wp P a w K Q := by
    intro q w' r1 r2 r3
    unfold Oper.wp
    have hrun : (execOp a.eval o).run P w = .ok (.value q) w' := by
      simp [execOp, ho, resolve, hc, hx, e1, invoke, builtin, r1]
    rw [hrun]
    exact hK ρ w' q r2 r3
  -- onto cells that are there
  have onto : ∀ (id off n cap y' m cc oo : Nat) (pl : Pl) (l : List (List AV)) (us : List Value), ρ id = some pl → slcOk pl off n cap y' cc → (cc ≠ 0 → oo = pl.base + off) → a.eval x = .slice (some ⟨pl.blk, oo, none⟩) n cc →
      (∀ w' : World, (Builtin.lenOf (a.eval y)).run P w' = .ok m w') → Ch sy ρ z l (Nat.min m n) us → (Builtin.firstCells z (Nat.min m n) (a.eval y)).run P w = .ok us.toArray w → storeEls z id l off s = some s' → v = .int .i64 (Int.ofNat (Nat.min m n)) → o.wp P a w K Q := by
    intro id off n cap y' m cc oo pl l us g1 g2 g3 g4 g5 g6 g7 g8 g9
    subst g9
    rcases storeEls_out hS g8 g6 with ⟨q1, q2, q3⟩ | ⟨pl', q1, q2, q3, q4⟩
    · subst q1 q2 q3
      have := copy_run (P := P) (ty := o.type) (len := n) (c := cc) (ao := some ⟨pl.blk, oo, none⟩) e2 g5 rfl g7 (by simp) pl.blk oo (.inr ⟨rfl, fun j hj => by simp at hj⟩)
      exact fin _ _ (by rw [g4]; exact this) (.refl hS) rfl
    · rw [g1] at q1; simp at q1; subst q1
      by_cases hus : us = []
      · subst hus
        have := copy_run (P := P) (ty := o.type) (len := n) (c := cc) (ao := some ⟨pl.blk, oo, none⟩) e2 g5 rfl g7 (by simp) pl.blk oo (.inr ⟨rfl, fun j hj => by simp at hj⟩)
        exact fin _ _ (by rw [g4]; exact this) q3 rfl
      · have hn0 : Nat.min m n ≠ 0 := fun h0 => hus (List.eq_nil_of_length_eq_zero (by rw [g6.vlen, h0]; simp))
        have hcc : cc ≠ 0 := by
          have h1 : Nat.min m n ≤ n := Nat.min_le_right _ _
          have := g2.1
          have := g2.2.1
          omega
        have := g3 hcc
        subst this
        have := copy_run (P := P) (ty := o.type) (len := n) (c := cc) (ao := some ⟨pl.blk, pl.base + off, none⟩) e2 g5 rfl g7 (fun u hu => (g6.flat u hu).one) pl.blk (pl.base + off) (.inr ⟨rfl, q2⟩)
        exact fin _ _ (by rw [g4]; exact this) q3 rfl
  have nothing : ∀ (ao : Option Addr) (n cc m : Nat), a.eval x = .slice ao n cc → (∀ w' : World, (Builtin.lenOf (a.eval y)).run P w' = .ok m w') → Nat.min m n = 0 → (Builtin.firstCells z 0 (a.eval y)).run P w = .ok #[] w → s' = s → v = .int .i64 0 → o.wp P a w K Q := by
    intro ao n cc m g1 g2 g3 g4 g5 g6
    subst g5 g6
    cases ao with
    | none =>
      have := copy_run (P := P) (ty := o.type) (len := n) (c := cc) (ao := none) (n := 0) (us := []) e2 g2 g3.symm g4 (by simp) 0 0 (.inl ⟨rfl, rfl⟩)
      exact fin _ _ (by rw [g1]; exact this) (.refl hS) rfl
    | some ad =>
      obtain ⟨e, i, zv, d, k1, k2, k3, k4, k5, k6, k7, k8, k9⟩ := elem2_inv e2
      simp only at k5
      have g3' : min m n = 0 := g3
      refine fin (.int .i64 0) w ?_ (.refl hS) rfl
      rw [g1]
      simp [Builtin.copy_, run_underlying k1, g2, sizeOf, typeInfo, k2, k5, goInt, g3', g4, storeCells]
  unfold copyV at h4
  split at h4
  · rename_i id off n cap y' id2 off2 m cap2 y2
    rw [bi_eq] at h4
    split at h4
    · simp at h4
    · simp only [ob_some] at h4
      obtain ⟨l, h5, s1, h6, h7⟩ := h4
      simp at h7
      obtain ⟨rfl, rfl⟩ := h7
      obtain ⟨pl, cc, oo, g1, g2, g3, g4⟩ := hb
      obtain ⟨pl2, cc2, oo2, j1, j2, j3, j4⟩ := hy
      obtain ⟨us, c1, c2⟩ := elemsN_at hS h5
      refine onto id off n cap y' m cc oo pl l us g1 g2 g3 g4 (fun w' => by rw [j4]; rfl) c1 ?_ h6 rfl
      rw [j4]
      refine run_firstCells_some w z _ _ _ _ us c1.vlen (fun j u hj => ?_)
      have hn0 : Nat.min m n ≠ 0 := by
        intro h0
        have := c1.vlen
        rw [h0] at this
        have := (List.getElem?_eq_some_iff.1 hj).1
        omega
      obtain ⟨pl', q1, q2, q3⟩ := c2 hn0
      rw [j1] at q1; simp at q1; subst q1
      have h1 : Nat.min m n ≤ m := Nat.min_le_left _ _
      have := j3 (by have := j2.1; have := j2.2.1; omega)
      subst this
      rw [addr_add]
      exact q3 j u hj
  · rename_i id off n cap y' m b
    simp only [bi_some, ob_some] at h4
    obtain ⟨h5, s1, h6, h7⟩ := h4
    simp at h5 h7
    obtain ⟨rfl, rfl⟩ := h5
    obtain ⟨rfl, rfl⟩ := h7
    obtain ⟨pl, cc, oo, g1, g2, g3, g4⟩ := hb
    obtain ⟨str, j1, j2, j3⟩ := hy
    have hk : Nat.min m n ≤ str.data.toList.length := by rw [j2]; exact Nat.min_le_left _ _
    have hch := bytesL_Ch (sy := sy) (ρ := ρ) (str.data.toList.take (Nat.min m n))
    rw [List.length_take, Nat.min_eq_left hk, pack_take _ _ hk, j3] at hch
    refine onto id off n cap y' m cc oo pl _ _ g1 g2 g3 g4 (fun w' => by rw [j1]; simp [Builtin.lenOf, Lib.size_eq, j2]) hch ?_ h6 rfl
    rw [j1]
    simp only [Builtin.firstCells, Sem.run_pure]
    congr 1
    apply Array.ext'
    simp
  · rename_i id2 off2 m cap2 y2
    rw [bi_eq] at h4
    split at h4
    · simp at h4
    · simp at h4
      obtain ⟨rfl, rfl⟩ := h4
      obtain ⟨pl2, cc2, oo2, j1, j2, j3, j4⟩ := hy
      exact nothing none 0 0 m hb (fun w' => by rw [j4]; rfl) (Nat.min_eq_right (Nat.zero_le _)) (by rw [j4]; simp [Builtin.firstCells, loadCells, loadCellsFrom]) rfl rfl
  · rename_i id off n cap y'
    rw [bi_eq] at h4
    split at h4
    · simp at h4
    · simp at h4
      obtain ⟨rfl, rfl⟩ := h4
      obtain ⟨pl, cc, oo, g1, g2, g3, g4⟩ := hb
      have hy' : a.eval y = .slice none 0 0 := hy
      exact nothing _ n cc 0 g4 (fun w' => by rw [hy']; rfl) (Nat.min_eq_left (Nat.zero_le _)) (by rw [hy']; simp [Builtin.firstCells]) rfl rfl
  · rw [bi_eq] at h4
    split at h4
    · simp at h4
    · simp at h4
      obtain ⟨rfl, rfl⟩ := h4
      have hy' : a.eval y = .slice none 0 0 := hy
      exact nothing none 0 0 0 hb (fun w' => by rw [hy']; rfl) rfl (by rw [hy']; simp [Builtin.firstCells]) rfl rfl
  · simp at h4

/-! calls -/
/-- what is known of calls -/
def CallOk (sy : Nat → Value) (P : Program) (call : CallR) : Prop :=
  ∀ (ρ : Env) (f : FuncId) (args : List AV) (s s' : St) (v : AV) (w : World) (vs : Array Value), SatS sy ρ s w → VL sy ρ args vs.toList → Fresh ρ s.next s'.next → call f args s = some (v, s') →
    Calls P f vs w fun e w' => ∃ ρ' u, e = .returned u ∧ Out sy ρ s w ρ' s' w' ∧ V sy ρ' v u
end Go.Ex

namespace Go.Ex
variable {sy : Nat → Value} {ρ : Env} {P : Program}

/-! maps -/
theorem bytes_beq (s t : ByteArray) : (s == t) = ((Nat.beq s.data.toList.length t.data.toList.length).and (Nat.beq (pack s.data.toList) (pack t.data.toList))) := by
  rw [← strEq, tl, tl]
  show (s.data == t.data) = (s.data.toList == t.data.toList)
  rw [Bool.eq_iff_iff, beq_iff_eq, beq_iff_eq, Array.toList_inj]
theorem bytes_eq {s t : ByteArray} (h : (s == t) = true) : s = t := by
  have h' : (s.data == t.data) = true := h
  rw [beq_iff_eq] at h'
  cases s; cases t; simp_all
theorem bytes_refl (s : ByteArray) : (s == s) = true := by
  show (s.data == s.data) = true
  simp
theorem keyEq_now {d : TypeDesc} {x y : AV} {b : Bool} {u v : Value} (h : keyEq d x y = some b) (hx : V sy ρ x u) (hy : V sy ρ y v) : Instr.sameNow d u v = some b ∧ (b = true → u = v ∧ ∀ n, Instr.sameBits n v u = true) := by
  unfold keyEq at h
  split at h
  · rename_i k a l b'
    rw [bi_some] at h
    obtain ⟨h1, h2⟩ := h
    have := kn_inj h1
    subst this
    simp only [Option.some.injEq] at h2
    rw [ibeq_eq] at h2
    rw [show u = _ from hx, show v = _ from hy]
    refine ⟨by simp [Instr.sameNow, ← h2]; rfl, fun hb => ?_⟩
    rw [hb] at h2
    have e := of_decide_eq_true h2
    subst e
    exact ⟨rfl, fun n => by cases n <;> simp [Instr.sameBits]⟩
  · rename_i n a m b'
    simp only [Option.some.injEq] at h
    obtain ⟨s, rfl, rfl, rfl⟩ := hx
    obtain ⟨t, rfl, rfl, rfl⟩ := hy
    rw [← bytes_beq] at h
    refine ⟨by simp [Instr.sameNow, h], fun hb => ?_⟩
    rw [hb] at h
    have e := bytes_eq h
    subst e
    exact ⟨rfl, fun n => by cases n <;> simp [Instr.sameBits, bytes_refl]⟩
  · rename_i a b'
    simp only [Option.some.injEq] at h
    rw [show u = _ from hx, show v = _ from hy]
    rw [bi_eq] at h
    refine ⟨?_, fun hb => ?_⟩
    · rw [← h]; cases a <;> cases b' <;> rfl
    · rw [hb] at h
      have e : a = b' := by cases a <;> cases b' <;> simp_all
      subst e
      exact ⟨rfl, fun n => by cases n <;> simp [Instr.sameBits]⟩
  · simp at h
theorem keyD_check {kd : TypeDesc} {kt : TypeId} {v : Value} {e : Bool} (hk : keyD kd = true) (ht : P.underlying kt = some kd) (w : World) : (Instr.checkKey e 10000 kt v).run P w = .ok () w := by
  show (Instr.checkKey e (9999 + 1) kt v).run P w = .ok () w
  unfold Instr.checkKey
  rw [Sem.run_bind, run_underlying ht]
  cases kd <;> simp [keyD] at hk <;> rfl
theorem ME.length : ∀ {l : List (AV × AV × Nat)} {es : List MapEntry}, ME sy ρ l es → es.length = l.length
  | [], _, h => by rw [show _ = ([] : List MapEntry) from h]; rfl
  | _ :: l, _, h => by obtain ⟨e, r, rfl, _, _, _, h5⟩ := h; simp [ME.length h5]
theorem run_findKey {kt : TypeId} {kd : TypeDesc} {kv : Value} {es : List MapEntry} {r : Option (Nat × Value)} (ht : P.underlying kt = some kd) (h : Instr.findNow kd kv es 0 = some r) (w : World) : (Instr.findKey kt kv es).run P w = .ok r w := by
  unfold Instr.findKey
  rw [Sem.run_bind, run_underlying ht]
  simp [h]
theorem findM_cons {s : St} {d : TypeDesc} {k : AV} {e : AV × AV × Nat} {l : List (AV × AV × Nat)} {i : Nat} : findM P s d k (e :: l) i = ob (keyE P s d k e.1) fun b => bi b (some (some (i, e.2))) (findM P s d k l (i + 1)) := rfl
/-- what is known of an entry that was found -/
def Hit (sy : Nat → Value) (ρ : Env) (kv : Value) (l : List (AV × AV × Nat)) (es : List MapEntry) (r : Option (Nat × AV × Nat)) (i j : Nat) (p : AV × AV × Nat) (e : MapEntry) : Prop :=
  r = some (i + j, p.2) ∧ l[j]? = some p ∧ es[j]? = some e ∧ V sy ρ p.1 e.key ∧ V sy ρ p.2.1 e.val ∧ e.born = p.2.2 ∧ kv = e.key ∧ ∀ n, Instr.sameBits n e.key kv = true
theorem findM_walk {s : St} {d : TypeDesc} {k : AV} {kv : Value} {F : List MapEntry → Nat → Option (Nat × Value) → Prop} (hnil : ∀ i, F [] i none)
    (hcons : ∀ x e es i b, keyE P s d k x = some b → V sy ρ x e.key → (b = true → F (e :: es) i (some (i, e.val)) ∧ kv = e.key ∧ ∀ n, Instr.sameBits n e.key kv = true) ∧ (b = false → ∀ q, F es (i + 1) q → F (e :: es) i q)) :
    ∀ {l : List (AV × AV × Nat)} {es : List MapEntry} {i : Nat} {r : Option (Nat × AV × Nat)}, ME sy ρ l es → findM P s d k l i = some r → (r = none ∧ F es i none) ∨ ∃ j p e, Hit sy ρ kv l es r i j p e ∧ F es i (some (i + j, e.val))
  | [], es, i, r, hm, h => by
    have h' : some none = some r := h
    simp at h'; subst h'
    rw [show es = [] from hm]
    exact .inl ⟨rfl, hnil i⟩
  | x :: l, es, i, r, hm, h => by
    obtain ⟨e, es', rfl, h1, h2, h3, h4⟩ := hm
    rw [findM_cons, ob_some] at h
    obtain ⟨b, h5, h6⟩ := h
    obtain ⟨g1, g2⟩ := hcons x.1 e es' i b h5 h1
    rw [bi_eq] at h6
    cases b with
    | true =>
      simp at h6; subst h6
      obtain ⟨q1, q2, q3⟩ := g1 rfl
      exact .inr ⟨0, x, e, ⟨rfl, rfl, rfl, h1, h2, h3, q2, q3⟩, q1⟩
    | false =>
      simp at h6
      rcases findM_walk hnil hcons h4 h6 with ⟨q1, q2⟩ | ⟨j, p, e', ⟨q1, q2, q3, q4⟩, q5⟩
      · exact .inl ⟨q1, g2 rfl _ q2⟩
      · exact .inr ⟨j + 1, p, e', ⟨by rw [q1]; congr 2; omega, by simpa using q2, by simpa using q3, q4⟩, by rw [show i + (j + 1) = i + 1 + j from by omega]; exact g2 rfl _ q5⟩
theorem ptr_same {s : St} {x y : AV} {e : TypeId} {u v : Value} (h : eqPtr P s x y (.pointer e) = some true) (hx : V sy ρ x u) (hy : V sy ρ y v) : u = v ∧ ∀ n, Instr.sameBits n v u = true := by
  have key : u = v → (∃ a, u = .pointer a) → u = v ∧ ∀ n, Instr.sameBits n v u = true := by
    rintro rfl ⟨a, rfl⟩
    exact ⟨rfl, fun n => by cases n <;> simp [Instr.sameBits]⟩
  unfold eqPtr at h
  split at h
  · rename_i e' i o j p hd
    simp only [ob_some] at h
    obtain ⟨n, h1, h2⟩ := h
    rw [bi_eq] at h2
    split at h2
    · simp at h2
    · unfold eqAddr at h2
      rw [bi_eq] at h2
      split at h2
      · rename_i hij
        have hij' := Nat.eq_of_beq_eq_true hij
        subst hij'
        simp only [Option.some.injEq] at h2
        have hop := Nat.eq_of_beq_eq_true h2
        subst hop
        obtain ⟨pl, a1, rfl⟩ := hx
        obtain ⟨pl', a2, rfl⟩ := hy
        rw [a1] at a2; simp at a2; subst a2
        exact key rfl ⟨_, rfl⟩
      · rw [bi_eq] at h2
        split at h2 <;> simp at h2
  · exact key (by rw [show u = _ from hx, show v = _ from hy]) ⟨none, hx⟩
  · simp at h
  · simp at h
  · simp at h
theorem keyE_eq {s : St} {d : TypeDesc} {x y : AV} (hd : ∀ e, d ≠ .pointer e) : keyE P s d x y = keyEq d x y := by
  unfold keyE
  cases d <;> first | rfl | (rename_i e; exact absurd rfl (hd e))
/-- a key that is looked for -/
theorem findM_key {s : St} {w : World} {kt : TypeId} {d : TypeDesc} {k : AV} {kv : Value} (hS : SatS sy ρ s w) (ht : P.underlying kt = some d) (hk : V sy ρ k kv) {l : List (AV × AV × Nat)} {es : List MapEntry} {r : Option (Nat × AV × Nat)} (hm : ME sy ρ l es) (h : findM P s d k l 0 = some r) :
    (r = none ∧ (Instr.findKey kt kv es).run P w = .ok none w) ∨ ∃ j p e, Hit sy ρ kv l es r 0 j p e ∧ (Instr.findKey kt kv es).run P w = .ok (some (0 + j, e.val)) w := by
  by_cases hd : ∀ e, d ≠ .pointer e
  · have := findM_walk (sy := sy) (ρ := ρ) (kv := kv) (F := fun es i q => Instr.findNow d kv es i = some q) (fun i => rfl) (fun x e es i b h5 h1 => by
      rw [keyE_eq hd] at h5
      obtain ⟨g1, g2⟩ := keyEq_now h5 hk h1
      refine ⟨fun hb => ?_, fun hb q hq => ?_⟩
      · subst hb; exact ⟨by simp [Instr.findNow, g1], (g2 rfl).1, (g2 rfl).2⟩
      · subst hb; simp [Instr.findNow, g1, hq]) hm h
    rcases this with ⟨q1, q2⟩ | ⟨j, p, e, q1, q2⟩
    · exact .inl ⟨q1, run_findKey ht q2 w⟩
    · exact .inr ⟨j, p, e, q1, run_findKey ht q2 w⟩
  · obtain ⟨e0, rfl⟩ : ∃ e, d = .pointer e := by
      refine Classical.byContradiction fun hn => hd fun e he => hn ⟨e, he⟩
    have := findM_walk (sy := sy) (ρ := ρ) (kv := kv) (F := fun es i q => (Instr.findAsking kt kv es i).run P w = .ok q w) (fun i => rfl) (fun x e es i b h5 h1 => by
      have h5' : eqPtr P s k x (.pointer e0) = some b := h5
      have heq := (eqPtr_run hS h5' hk h1 ht 9999).1
      have heq' : (Op.equal kt kv e.key).run P w = .ok b w := heq
      refine ⟨fun hb => ?_, fun hb q hq => ?_⟩
      · subst hb
        obtain ⟨g1, g2⟩ := ptr_same h5' hk h1
        exact ⟨by simp [Instr.findAsking, heq'], g1, g2⟩
      · subst hb; simp [Instr.findAsking, heq', hq]) hm h
    have fk : ∀ q, (Instr.findAsking kt kv es 0).run P w = .ok q w → (Instr.findKey kt kv es).run P w = .ok q w := by
      intro q hq
      unfold Instr.findKey
      rw [Sem.run_bind, run_underlying ht]
      cases es with
      | nil =>
        have : (Instr.findAsking kt kv [] 0).run P w = .ok none w := rfl
        rw [this] at hq
        simp at hq; subst hq
        simp [Instr.findNow]
      | cons e es => simp [Instr.findNow, Instr.sameNow, hq]
    rcases this with ⟨q1, q2⟩ | ⟨j, p, e, q1, q2⟩
    · exact .inl ⟨q1, fk _ q2⟩
    · exact .inr ⟨j, p, e, q1, fk _ q2⟩
theorem run_getMap {w : World} {r : Nat} {es : Array MapEntry} {c : Nat} (h : w.heap[r]? = some (.map es c)) : (getObj r).run P w = .ok (.map es c) w := by
  simp [getObj, Sem.run, h]
theorem run_setMap {w : World} {r : Nat} {es : Array MapEntry} {c : Nat} {o : Obj} (h : w.heap[r]? = some (.map es c)) : (setObj r o).run P w = .ok () { w with heap := w.heap.setIfInBounds r o } := by
  simp [setObj, Sem.run, h]
theorem mapD_inv {d : TypeDesc} {q : TypeId × TypeId} (h : mapD d = some q) : d = .map q.1 q.2 := by
  cases d <;> simp [mapD] at h
  subst h; rfl
/-- a map's entries, in memory -/
theorem mapEs_at {s : St} {w : World} {m : AV} {u : Value} {l : List (AV × AV × Nat)} (hS : SatS sy ρ s w) (h : mapEs s m = some l) (hv : V sy ρ m u) :
    (u = .map none ∧ l = []) ∨ ∃ r es c, u = .map (some r) ∧ w.heap[r]? = some (.map es c) ∧ ME sy ρ l es.toList := by
  cases m <;> simp [mapEs] at h
  case nilm => exact .inl ⟨hv, h⟩
  case mp id =>
    rw [ob_some] at h
    obtain ⟨row, h1, h2⟩ := h
    simp at h2; subst h2
    obtain ⟨pl, e1, rfl⟩ := hv
    obtain ⟨-, pl', es, g1, g2, g3⟩ := hS.maps.rows id row h1
    rw [e1] at g1; simp at g1; subst g1
    exact .inr ⟨pl.blk, es, row.clock, rfl, g2, g3⟩
theorem rLookup_ok (t : TypeId) (x i : Operand) (ok : Bool) : ReadOk sy P (.lookup t x i ok) (rLookup t x i ok) := by
  intro ρ tm a s r o w ho hS ht h
  simp only [rLookup, ob_some, bi_some] at h
  obtain ⟨m, h1, k, h2, d, h3, q, h4, kd, h5, h6, es, h7, f, h8, v, h9, h10⟩ := h
  simp at h10; subst h10
  have hm := ev_V hS.sat.glob ht h1
  have hk := ev_V hS.sat.glob ht h2
  have hd := mapD_inv h4
  subst hd
  have look : ∀ (esl : Array MapEntry) (uv : Value), ME sy ρ es esl.toList → ((uv = .map none ∧ esl = #[]) ∨ ∃ r c, uv = .map (some r) ∧ w.heap[r]? = some (.map esl c)) → a.eval x = uv →
      ∃ u, (execOp a.eval o).run P w = .ok (.value u) w ∧ V sy ρ v u := by
    intro esl uv hme hmem hx
    rcases findM_key hS h5 hk hme h8 with ⟨rfl, g2⟩ | ⟨j, p, e, ⟨rfl, g2, g3, g4, g5, g6, g7, g8⟩, g9⟩
    · simp only [lookR, ob_some] at h9
      obtain ⟨z, z1, z2⟩ := h9
      simp at z2; subst z2
      obtain ⟨u, k1, k2⟩ := zero_run z1
      refine ⟨if ok then .tuple #[u, .bool false] else u, ?_, ?_⟩
      · rcases hmem with ⟨rfl, rfl⟩ | ⟨r, c, rfl, hw⟩
        · have g2' := g2
          simp [execOp, ho, Instr.lookup, run_underlying h3, hx, keyD_check h6 h5] at g2' ⊢
          simp [g2', k1 w]
        · simp [execOp, ho, Instr.lookup, run_underlying h3, hx, run_getMap hw, keyD_check h6 h5, g2, k1 w]
      · cases ok <;> simp only [lookOk, bi_eq] <;> simp
        · exact conv_V k2
        · exact ⟨_, rfl, _, _, rfl, conv_V k2, _, _, rfl, rfl, rfl⟩
    · simp only [lookR] at h9
      simp at h9; subst h9
      refine ⟨if ok then .tuple #[e.val, .bool true] else e.val, ?_, ?_⟩
      · rcases hmem with ⟨rfl, rfl⟩ | ⟨r, c, rfl, hw⟩
        · simp at g3
        · simp [execOp, ho, Instr.lookup, run_underlying h3, hx, run_getMap hw, keyD_check h6 h5, g9]
      · cases ok <;> simp only [lookOk, bi_eq] <;> simp
        · exact g5
        · exact ⟨_, rfl, _, _, rfl, g5, _, _, rfl, rfl, rfl⟩
  rcases mapEs_at hS h7 hm with ⟨g1, rfl⟩ | ⟨r, es', c, g1, g2, g3⟩
  · exact look #[] _ rfl (.inl ⟨rfl, rfl⟩) g1
  · exact look es' _ g3 (.inr ⟨r, c, rfl, g2⟩) g1
theorem rLenM_ok (c : Call) (x : Operand) (hc : c.callee = .builtin .len) (hx : c.args = #[x]) : ReadOk sy P (.call c) (rLenM x c.argTypes) := by
  intro ρ tm a s r o w ho hS ht h
  simp only [rLenM, ob_some] at h
  obtain ⟨m, h1, t, h2, d, h3, q, h4, es, h5, h6⟩ := h
  simp at h6; subst h6
  have hm := ev_V hS.sat.glob ht h1
  have hd := mapD_inv h4
  subst hd
  rcases mapEs_at hS h5 hm with ⟨g1, rfl⟩ | ⟨r, es', c', g1, g2, g3⟩
  · exact ⟨.int .i64 0, by simp [execOp, ho, resolve, hc, hx, invoke, builtin, Builtin.len_, h2, run_underlying h3, g1, goInt], rfl⟩
  · refine ⟨.int .i64 (es'.size : Int), by simp [execOp, ho, resolve, hc, hx, invoke, builtin, Builtin.len_, h2, run_underlying h3, g1, run_getMap g2, goInt], ?_⟩
    have := g3.length
    rw [lenL_eq, ← this]; simp; rfl

/-! maps that are written -/
theorem Sat.keep {H : HV} {F : FV} {fl : Nat} {w w' : World} {ρ' : Env} (h : Sat sy ρ H F fl w) (hm : ∀ i q, ρ i = some q → ρ' i = some q) (hb : ∀ b x, w.shape? b = some x → w'.heap[b]? = w.heap[b]?) : Sat sy ρ' H F fl w' := by
  have back : ∀ i r p, H i = some r → ρ' i = some p → ρ i = some p := fun i r p hi hp => by
    obtain ⟨q, k, _⟩ := h.rows i r hi
    have := hm _ _ k
    rw [hp] at this; simp at this; rw [this]; exact k
  refine ⟨fun id r hr => ?_, fun i j ri rj pi pj hij hi hj hpi hpj hbl => h.sep i j ri rj pi pj hij hi hj (back i ri pi hi hpi) (back j rj pj hj hpj) hbl, h.fams, h.ends, fun f l hl i hoi => (h.pmem f l hl i hoi).imp fun q hq => hm _ _ hq, h.exfam, h.glob.mono hm⟩
  obtain ⟨pl, a, b, c, d⟩ := h.rows id r hr
  exact ⟨pl, hm _ _ a, b, c, d.same (by obtain ⟨el, q⟩ := d.shape; exact hb _ _ q) (fun k => k) hm⟩
theorem addMap_out {s : St} {w : World} (hS : SatS sy ρ s w) (hρ : ρ s.next = none) :
    Out sy ρ s w (Env.set ρ s.next ⟨w.heap.size, 0, 0, true, 0⟩) (addMap s ⟨0, []⟩) { w with heap := w.heap.push (.map #[] 0) } := by
  have hm := Env.set_mono (ρ := ρ) (pl := ⟨w.heap.size, 0, 0, true, 0⟩) hρ
  have hget : ∀ i, (addMap s ⟨0, []⟩).fams.ms.get i = if i = s.next then some ⟨0, []⟩ else s.fams.ms.get i := fun i => FM.ms_setM _ _ _ _
  have hold : ∀ b, b < w.heap.size → (w.heap.push (Obj.map #[] 0))[b]? = w.heap[b]? := fun b hb => by rw [Array.getElem?_push, if_neg (by omega)]
  refine ⟨⟨Nat.le_succ _, rfl, fun _ hi _ => hi, fun i hi hr => ?_⟩, ⟨by simp, rfl, rfl, rfl, fun b hb _ => hold b hb, hm, fun i q hq hi => ?_⟩, ⟨hS.sat.keep hm fun b x hx => hold b (lt_of_shape hx), hS.wf, Nat.le_succ_of_le hS.fln, ⟨fun i m hi => ?_, fun i j mi mj pi pj hij hi hj hpi hpj => ?_⟩⟩⟩
  · rw [hget, if_neg (by rcases hr with q | q; omega; exact fun e => by subst e; exact absurd q (Nat.not_succ_le_self _))]; exact hi
  · unfold Env.set at hq
    split at hq
    · rename_i e; subst e
      simp at hq; subst hq
      exact ⟨⟨Nat.le_refl _, Nat.lt_succ_self _⟩, .inl (Nat.le_refl _)⟩
    · rw [hi] at hq; simp at hq
  · rw [hget] at hi
    split at hi
    · rename_i e; subst e
      simp at hi; subst hi
      exact ⟨hS.fln, _, #[], Env.set_same, by simp, rfl⟩
    · obtain ⟨h1, pl, es, h2, h3, h4⟩ := hS.maps.rows i m hi
      exact ⟨h1, pl, es, hm _ _ h2, by rw [← h3]; exact hold _ (Array.getElem?_eq_some_iff.1 h3).1, h4.mono hm⟩
  · rw [hget] at hi hj
    have blk : ∀ k mk pk, k ≠ s.next → s.fams.ms.get k = some mk → (Env.set ρ s.next ⟨w.heap.size, 0, 0, true, 0⟩) k = some pk → ρ k = some pk ∧ pk.blk < w.heap.size := fun k mk pk hk h1 h2 => by
      unfold Env.set at h2
      rw [if_neg hk] at h2
      obtain ⟨-, p, es, g1, g2, -⟩ := hS.maps.rows k mk h1
      rw [h2] at g1; simp at g1; subst g1
      exact ⟨h2, (Array.getElem?_eq_some_iff.1 g2).1⟩
    split at hi <;> split at hj
    · rename_i e1 e2; exact absurd (e1.trans e2.symm) hij
    · rename_i e1 e2
      subst e1
      rw [Env.set_same] at hpi; simp at hpi; subst hpi
      have := (blk j mj pj e2 hj hpj).2
      show w.heap.size ≠ _
      omega
    · rename_i e1 e2
      subst e2
      rw [Env.set_same] at hpj; simp at hpj; subst hpj
      have := (blk i mi pi e1 hi hpi).2
      show _ ≠ w.heap.size
      omega
    · rename_i e1 e2
      exact hS.maps.sep i j mi mj pi pj hij hi hj (blk i mi pi e1 hi hpi).1 (blk j mj pj e2 hj hpj).1
theorem putMap_out {s : St} {w : World} {id : Nat} {row row' : MRow} {pl : Pl} {es es' : Array MapEntry} (hS : SatS sy ρ s w) (hfl : s.floor ≤ id) (hr : s.fams.ms.get id = some row) (hρ : ρ id = some pl) (hw : w.heap[pl.blk]? = some (.map es row.clock)) (he : ME sy ρ row'.es es'.toList) :
    Out sy ρ s w ρ (putMap s id row') { w with heap := w.heap.setIfInBounds pl.blk (.map es' row'.clock) } := by
  have hget : ∀ i, (putMap s id row').fams.ms.get i = if i = id then some row' else s.fams.ms.get i := fun i => FM.ms_setM _ _ _ _
  have hlt := (Array.getElem?_eq_some_iff.1 hw).1
  have hne : ∀ b, b ≠ pl.blk → (w.heap.setIfInBounds pl.blk (.map es' row'.clock))[b]? = w.heap[b]? := fun b hb => Array.getElem?_setIfInBounds_ne (Ne.symm hb)
  refine ⟨⟨Nat.le_refl _, rfl, fun _ hi _ => hi, fun i hi _ => ?_⟩, ⟨by simp, rfl, rfl, rfl, fun b hb ho => hne b fun e => ho (.inr ⟨id, row, pl, hfl, hr, hρ, e.symm⟩), fun _ _ k => k, fun i q k k' => by rw [k'] at k; simp at k⟩,
    ⟨hS.sat.keep (fun _ _ k => k) fun b x hx => hne b fun e => by subst e; rw [shape_map hw] at hx; simp at hx, hS.wf, hS.fln, ⟨fun i m hi => ?_, fun i j mi mj pi pj hij hi hj hpi hpj => ?_⟩⟩⟩
  · rw [hget, if_neg (fun e => by subst e; rw [hr] at hi; simp at hi)]; exact hi
  · rw [hget] at hi
    split at hi
    · rename_i e; subst e
      simp at hi; subst hi
      exact ⟨hfl, pl, es', hρ, by simp [hlt], he⟩
    · rename_i e
      obtain ⟨h1, p, es0, h2, h3, h4⟩ := hS.maps.rows i m hi
      refine ⟨h1, p, es0, h2, ?_, h4⟩
      rw [← h3]
      exact hne _ (hS.maps.sep i id m row p pl e hi hr h2 hρ)
  · rw [hget] at hi hj
    have old : ∀ k mk, (if k = id then some row' else s.fams.ms.get k) = some mk → ∃ mk', s.fams.ms.get k = some mk' := fun k mk hk => by
      split at hk
      · rename_i e; subst e; exact ⟨_, hr⟩
      · exact ⟨_, hk⟩
    obtain ⟨mi', hi'⟩ := old i mi hi
    obtain ⟨mj', hj'⟩ := old j mj hj
    exact hS.maps.sep i j mi' mj' pi pj hij hi' hj' hpi hpj
theorem aMakeMap_ok (call : CallR) (t : TypeId) (x : Option Operand) : EffOk sy P call (.makeMap t x) (aMakeMap t x) := by
  intro ρ tm a s s' v w o K Q ho hS ht hfr h hK
  simp only [aMakeMap, ob_some, bi_some] at h
  obtain ⟨r, h1, h2, h3⟩ := h
  simp at h3
  obtain ⟨rfl, rfl⟩ := h3
  have hρ : ρ s.next = none := hfr _ (Nat.le_refl _) (Nat.lt_succ_self _)
  have hrun : (Instr.makeMap t (x.map a.eval)).run P w = .ok (.map (some w.heap.size)) { w with heap := w.heap.push (.map #[] 0) } := by
    rcases evO_V hS.sat.glob ht h1 with ⟨rfl, e⟩ | ⟨y, u, rfl, e, hv⟩
    · rw [e]; simp [Instr.makeMap]
    · rw [e]
      unfold hintOk at h2
      split at h2
      · simp_all
      · rename_i heq
        simp at heq; subst heq
        rw [show u = _ from hv]
        split at h2
        · rename_i hu
          simp [Instr.makeMap, run_underlying hu, asInt, asIntOf]
        · simp at h2
      · simp at h2
  unfold Oper.wp
  simp only [execOp, ho, Sem.run_bind, hrun, Result.andThen_ok, Sem.run_pure, Oper.upon_value]
  exact hK _ _ _ (addMap_out hS hρ) ⟨_, Env.set_same, rfl⟩

theorem ME.get : ∀ {l : List (AV × AV × Nat)} {es : List MapEntry} {j : Nat} {p : AV × AV × Nat}, ME sy ρ l es → l[j]? = some p → ∃ e, es[j]? = some e ∧ V sy ρ p.1 e.key ∧ V sy ρ p.2.1 e.val ∧ e.born = p.2.2
  | [], _, _, _, _, h => by simp at h
  | x :: l, _, 0, p, hm, h => by obtain ⟨e, r, rfl, h1, h2, h3, h4⟩ := hm; simp at h; subst h; exact ⟨e, rfl, h1, h2, h3⟩
  | x :: l, _, j + 1, p, hm, h => by obtain ⟨e, r, rfl, h1, h2, h3, h4⟩ := hm; simp at h; simpa using ME.get h4 h
theorem ME.set : ∀ {l : List (AV × AV × Nat)} {es : List MapEntry} {j : Nat} {p : AV × AV × Nat} {e : MapEntry}, ME sy ρ l es → V sy ρ p.1 e.key → V sy ρ p.2.1 e.val → e.born = p.2.2 → ME sy ρ (l.set j p) (es.set j e)
  | [], _, _, _, _, hm, _, _, _ => by rw [show _ = ([] : List MapEntry) from hm]; rfl
  | x :: l, _, 0, p, e, hm, h1, h2, h3 => by obtain ⟨e', r, rfl, g1, g2, g3, g4⟩ := hm; exact ⟨e, r, rfl, h1, h2, h3, g4⟩
  | x :: l, _, j + 1, p, e, hm, h1, h2, h3 => by obtain ⟨e', r, rfl, g1, g2, g3, g4⟩ := hm; exact ⟨e', r.set j e, rfl, g1, g2, g3, ME.set g4 h1 h2 h3⟩
theorem ME.push : ∀ {l : List (AV × AV × Nat)} {es : List MapEntry} {p : AV × AV × Nat} {e : MapEntry}, ME sy ρ l es → V sy ρ p.1 e.key → V sy ρ p.2.1 e.val → e.born = p.2.2 → ME sy ρ (l ++ [p]) (es ++ [e])
  | [], _, p, e, hm, h1, h2, h3 => by rw [show _ = ([] : List MapEntry) from hm]; exact ⟨e, [], rfl, h1, h2, h3, rfl⟩
  | x :: l, _, p, e, hm, h1, h2, h3 => by obtain ⟨e', r, rfl, g1, g2, g3, g4⟩ := hm; exact ⟨e', r ++ [e], rfl, g1, g2, g3, ME.push g4 h1 h2 h3⟩
theorem ME.erase : ∀ {l : List (AV × AV × Nat)} {es : List MapEntry} {j : Nat}, ME sy ρ l es → ME sy ρ (l.eraseIdx j) (es.eraseIdx j)
  | [], _, _, hm => by rw [show _ = ([] : List MapEntry) from hm]; rfl
  | x :: l, _, 0, hm => by obtain ⟨e', r, rfl, g1, g2, g3, g4⟩ := hm; exact g4
  | x :: l, _, j + 1, hm => by obtain ⟨e', r, rfl, g1, g2, g3, g4⟩ := hm; exact ⟨e', r.eraseIdx j, rfl, g1, g2, g3, ME.erase g4⟩
theorem eraseL_eq {α : Type} : ∀ (l : List α) (n : Nat), eraseL l n = l.eraseIdx n
  | [], _ => rfl
  | _ :: _, 0 => rfl
  | a :: l, n + 1 => congrArg (List.cons a) (eraseL_eq l n)
/-- a key that is looked for, in a map that may be written -/
structure Held (sy : Nat → Value) (ρ : Env) (P : Program) (s : St) (w : World) (t : TypeId) (mv kv : Value) (q : TypeId × TypeId) (id : Nat) (row : MRow) (r : Option (Nat × AV × Nat)) (pl : Pl) (es : Array MapEntry) : Prop where
  und : P.underlying t = some (.map q.1 q.2)
  floor : s.floor ≤ id
  get : s.fams.ms.get id = some row
  at_ : ρ id = some pl
  val : mv = .map (some pl.blk)
  mem : w.heap[pl.blk]? = some (.map es row.clock)
  me : ME sy ρ row.es es.toList
  check : ∀ e, (Instr.checkKey e 10000 q.1 kv).run P w = .ok () w
  find : (r = none ∧ (Instr.findKey q.1 kv es.toList).run P w = .ok none w) ∨
    ∃ j p e, r = some (j, p.2) ∧ row.es[j]? = some p ∧ es.toList[j]? = some e ∧ V sy ρ p.2.1 e.val ∧ e.born = p.2.2 ∧ kv = e.key ∧ (∀ n, Instr.sameBits n e.key kv = true) ∧ (Instr.findKey q.1 kv es.toList).run P w = .ok (some (j, e.val)) w
theorem withMap_inv {s : St} {w : World} {t : TypeId} {m k : AV} {mv kv : Value} {f : TypeId → Nat → MRow → Option (Nat × AV × Nat) → R} {res : AV × St} (hS : SatS sy ρ s w) (hm : V sy ρ m mv) (hk : V sy ρ k kv) (h : withMap P t s m k f = some res) :
    ∃ q id row r pl es, f q.2 id row r = some res ∧ Held sy ρ P s w t mv kv q id row r pl es := by
  simp only [withMap, ob_some, bi_some] at h
  obtain ⟨d, h1, q, h2, kd, h3, h4, h5⟩ := h
  have hd := mapD_inv h2
  subst hd
  split at h5
  · rename_i id
    simp only [ob_some, bi_some] at h5
    obtain ⟨h6, row, h7, r, h8, h9⟩ := h5
    obtain ⟨pl, e1, rfl⟩ := hm
    obtain ⟨-, pl', es, g1, g2, g3⟩ := hS.maps.rows id row h7
    rw [e1] at g1; simp at g1; subst g1
    refine ⟨q, id, row, r, pl, es, h9, ⟨h1, by simpa using h6, h7, e1, rfl, g2, g3, fun e => keyD_check h4 h3 w, ?_⟩⟩
    rcases findM_key hS h3 hk g3 h8 with ⟨rfl, k2⟩ | ⟨j, p, e, ⟨rfl, k2, k3, k4, k5, k6, k7, k8⟩, k9⟩
    · exact .inl ⟨rfl, k2⟩
    · exact .inr ⟨j, p, e, by simp, k2, k3, k5, k6, k7, k8, by simpa using k9⟩
  · simp at h5
theorem stays_run {old new : Value} (h : ∀ n, Instr.sameBits n old new = true) (w : World) : (Instr.keyThatStays old new).run P w = .ok new w := by
  simp [Instr.keyThatStays, h]
theorem modify_set {α : Type} (f : α → α) : ∀ (l : List α) (j : Nat) (e : α), l[j]? = some e → l.modify j f = l.set j (f e)
  | [], _, _, h => by simp at h
  | a :: l, 0, e, h => by simp at h; subst h; rfl
  | a :: l, j + 1, e, h => by
    have := modify_set f l j e (by simpa using h)
    simp [this]
theorem modify_list (es : Array MapEntry) (j : Nat) (e : MapEntry) (f : MapEntry → MapEntry) (h : es.toList[j]? = some e) : (es.modify j f).toList = es.toList.set j (f e) := by
  rw [Array.toList_modify]
  exact modify_set f _ j e h
theorem updM_some {v k : AV} {m row' : MRow} {p : Nat × AV × Nat} (h : updM v k m (some p) = some row') : p.1 < m.es.length ∧ row' = ⟨m.clock, m.es.set p.1 (k, v, p.2.2)⟩ := by
  simp only [updM, ob_some] at h
  obtain ⟨es, h1, h2⟩ := h
  rw [setL_some] at h1
  simp at h2
  exact ⟨h1.1, by rw [← h2, h1.2]⟩
theorem updM_none {v k : AV} {m row' : MRow} (h : updM v k m none = some row') : row' = ⟨m.clock + 1, m.es ++ [(k, v, m.clock)]⟩ := by
  simp only [updM, app_eq] at h
  simp at h
  exact h.symm
theorem fst_get {es : Array MapEntry} {j : Nat} {e : MapEntry} (h : es.toList[j]? = some e) : es[j]? = some e := by simpa using h
/-- a key's value, set -/
theorem Held.set {s : St} {w : World} {t : TypeId} {v k : AV} {mv kv vv : Value} {q : TypeId × TypeId} {id : Nat} {row row' : MRow} {r : Option (Nat × AV × Nat)} {pl : Pl} {es : Array MapEntry} (hS : SatS sy ρ s w) (h : Held sy ρ P s w t mv kv q id row r pl es)
    (hk : V sy ρ k kv) (hv : V sy ρ v vv) (hu : updM v k row r = some row') : ∃ w', (Instr.mapUpdate t mv kv vv).run P w = .ok () w' ∧ Out sy ρ s w ρ (putMap s id row') w' := by
  have hmv := h.val
  subst hmv
  rcases h.find with ⟨rfl, hf⟩ | ⟨j, p, e, rfl, g1, g2, g3, g4, g5, g6, hf⟩
  · have hr := updM_none hu
    subst hr
    refine ⟨{ w with heap := w.heap.setIfInBounds pl.blk (.map (es.push ⟨kv, vv, row.clock⟩) (row.clock + 1)) }, ?_, putMap_out hS h.floor h.get h.at_ h.mem (by rw [Array.toList_push]; exact h.me.push hk hv rfl)⟩
    simp [Instr.mapUpdate, run_underlying h.und, run_getMap h.mem, h.check, hf, run_setMap h.mem]
  · obtain ⟨-, hr⟩ := updM_some hu
    subst hr
    subst g5
    refine ⟨{ w with heap := w.heap.setIfInBounds pl.blk (.map (es.modify j fun x => { x with key := e.key, val := vv }) row.clock) }, ?_, putMap_out hS h.floor h.get h.at_ h.mem (by rw [modify_list es j e _ g2]; exact h.me.set hk hv g4)⟩
    simp [Instr.mapUpdate, run_underlying h.und, run_getMap h.mem, h.check, hf, run_setMap h.mem, fst_get g2, stays_run g6]
theorem aMapSet_run {op : Op} {call : CallR} {t : TypeId} {m k x : Operand} (hop : ∀ (ev : Operand → Value) (o : Oper), o.op = op → execOp ev o = (do Instr.mapUpdate t (ev m) (ev k) (ev x); pure .skip)) : EffOk sy P call op (aMapSet t m k x) := by
  intro ρ tm a s s' v w o K Q ho hS ht hfr h hK
  simp only [aMapSet, ob_some] at h
  obtain ⟨m', h1, k', h2, x', h3, h4⟩ := h
  obtain ⟨q, id, row, r, pl, es, h5, h6⟩ := withMap_inv hS (ev_V hS.sat.glob ht h1) (ev_V hS.sat.glob ht h2) h4
  simp only [setM, ob_some] at h5
  obtain ⟨row', h7, h8⟩ := h5
  simp at h8
  obtain ⟨rfl, rfl⟩ := h8
  obtain ⟨w', g1, g2⟩ := h6.set hS (ev_V hS.sat.glob ht h2) (ev_V hS.sat.glob ht h3) h7
  unfold Oper.wp
  rw [hop a.eval o ho]
  simp only [Sem.run_bind, g1, Result.andThen_ok, Sem.run_pure, Oper.upon_skip]
  exact hK ρ _ _ g2 ⟨#[], rfl, rfl⟩
theorem aMapUpdate_ok (call : CallR) (t : TypeId) (m k x : Operand) : EffOk sy P call (.mapUpdate t m k x) (aMapSet t m k x) := aMapSet_run fun ev o ho => by simp only [execOp, ho]
theorem aInsert_ok (call : CallR) (t : TypeId) (m k x : Operand) : EffOk sy P call (.insert t m k x) (aMapSet t m k x) := aMapSet_run fun ev o ho => by simp only [execOp, ho]
theorem aMapEntry_ok (call : CallR) (t : TypeId) (m k : Operand) : EffOk sy P call (.mapEntry t m k) (aMapEntry t m k) := by
  intro ρ tm a s s' v w o K Q ho hS ht hfr h hK
  simp only [aMapEntry, ob_some] at h
  obtain ⟨m', h1, k', h2, h4⟩ := h
  have hk := ev_V hS.sat.glob ht h2
  obtain ⟨q, id, row, r, pl, es, h5, h6⟩ := withMap_inv hS (ev_V hS.sat.glob ht h1) hk h4
  have fin : ∀ u w', (Instr.mapEntry t (a.eval m) (a.eval k)).run P w = .ok u w' → Out sy ρ s w ρ s' w' → V sy ρ v u → o.wp P a w K Q := by
    intro u w' g1 g2 g3
    unfold Oper.wp
    simp only [execOp, ho, Sem.run_bind, g1, Result.andThen_ok, Sem.run_pure, Oper.upon_value]
    exact hK ρ _ _ g2 g3
  have hmv := h6.val
  rcases h6.find with ⟨rfl, hf⟩ | ⟨j, p, e, rfl, g1, g2, g3, g4, g5, g6, hf⟩
  · simp only [entM, ob_some] at h5
    obtain ⟨z, h7, row', h8, h9⟩ := h5
    simp at h9
    obtain ⟨rfl, rfl⟩ := h9
    have hr := updM_none h8
    subst hr
    obtain ⟨u, k1, k2⟩ := zero_run h7
    refine fin (.tuple #[u, .int .i64 (row.clock : Int)]) { w with heap := w.heap.setIfInBounds pl.blk (.map (es.push ⟨a.eval k, u, row.clock⟩) (row.clock + 1)) } ?_ (putMap_out hS h6.floor h6.get h6.at_ h6.mem (by rw [Array.toList_push]; exact h6.me.push hk (conv_V k2) rfl)) ⟨_, rfl, _, _, rfl, conv_V k2, _, _, rfl, rfl, rfl⟩
    rw [hmv]
    simp [Instr.mapEntry, run_underlying h6.und, run_getMap h6.mem, h6.check, hf, run_setMap h6.mem, k1, goInt]
  · simp only [entM, ob_some] at h5
    obtain ⟨row', h8, h9⟩ := h5
    simp at h9
    obtain ⟨rfl, rfl⟩ := h9
    obtain ⟨-, hr⟩ := updM_some h8
    subst hr
    refine fin (.tuple #[e.val, .int .i64 (e.born : Int)]) { w with heap := w.heap.setIfInBounds pl.blk (.map (es.modify j fun x => { x with key := a.eval k }) row.clock) } ?_ (putMap_out hS h6.floor h6.get h6.at_ h6.mem (by rw [modify_list es j e _ g2]; exact h6.me.set hk g3 g4)) ⟨_, rfl, _, _, rfl, g3, _, _, rfl, by rw [g4]; rfl, rfl⟩
    rw [hmv]
    simp [Instr.mapEntry, run_underlying h6.und, run_getMap h6.mem, h6.check, hf, run_setMap h6.mem, fst_get g2, stays_run g6, goInt]
theorem bornM_cons {n : Nat} {e : AV × AV × Nat} {l : List (AV × AV × Nat)} {i : Nat} : bornM n (e :: l) i = bi (Nat.beq e.2.2 n) (some (i, e.1)) (bornM n l (i + 1)) := rfl
theorem bornM_find {n : Nat} : ∀ {l : List (AV × AV × Nat)} {es : List MapEntry} {i : Nat} {r : Nat × AV}, ME sy ρ l es → bornM n l i = some r →
    ∃ j e, r.1 = i + j ∧ es[j]? = some e ∧ V sy ρ r.2 e.key ∧ e.born = n ∧ es.findIdx? (fun e => (e.born : Int) == (n : Int)) = some j
  | [], _, _, _, _, h => by
    have h' : (none : Option (Nat × AV)) = some _ := h
    simp at h'
  | x :: l, es, i, r, hm, h => by
    obtain ⟨e, es', rfl, h1, h2, h3, h4⟩ := hm
    rw [bornM_cons, bi_eq] at h
    split at h
    · rename_i hb
      simp at h; subst h
      have hb' : x.2.2 = n := by simpa using hb
      exact ⟨0, e, rfl, rfl, h1, by rw [h3, hb'], by rw [List.findIdx?_cons]; simp [h3, hb']⟩
    · rename_i hb
      have hb' : ¬ x.2.2 = n := by simpa using hb
      obtain ⟨j, e', g1, g2, g3, g4, g5⟩ := bornM_find h4 h
      refine ⟨j + 1, e', by rw [g1]; omega, by simpa using g2, g3, g4, ?_⟩
      rw [List.findIdx?_cons, g5]
      have : ((e.born : Int) == (n : Int)) = false := by rw [beq_eq_false_iff_ne]; rw [h3]; omega
      simp [this]
theorem arr_find {es : Array MapEntry} {p : MapEntry → Bool} {j : Nat} (h : es.toList.findIdx? p = some j) : es.findIdx? p = some j := by
  obtain ⟨l⟩ := es
  simpa using h
theorem aEntryStore_ok (call : CallR) (t : TypeId) (m st x : Operand) : EffOk sy P call (.entryStore t m st x) (aEntryStore m st x) := by
  intro ρ tm a s s' v w o K Q ho hS ht hfr h hK
  simp only [aEntryStore, ob_some] at h
  obtain ⟨m', h1, k', h2, n, h3, x', h4, h5⟩ := h
  have hm := ev_V hS.sat.glob ht h1
  obtain ⟨kk, hst⟩ := asNat_V h3 (ev_V hS.sat.glob ht h2)
  have hx := ev_V hS.sat.glob ht h4
  unfold entS at h5
  split at h5
  · rename_i id
    simp only [ob_some, bi_some] at h5
    obtain ⟨h6, row, h7, p, h8, es', h9, h10⟩ := h5
    simp at h10
    obtain ⟨rfl, rfl⟩ := h10
    rw [setL_some] at h9
    obtain ⟨-, rfl⟩ := h9
    obtain ⟨pl, e1, hmv⟩ := hm
    obtain ⟨-, pl', es, g1, g2, g3⟩ := hS.maps.rows id row h7
    rw [e1] at g1; simp at g1; subst g1
    obtain ⟨j, e, k1, k2, k3, k4, k5⟩ := bornM_find g3 h8
    have k1' : p.1 = j := by omega
    rw [k1'] at hK
    have k5' : es.findIdx? (fun e => (e.born : Int) == (n : Int)) = some j := arr_find k5
    have hrun : (Instr.entryStore t (a.eval m) (a.eval st) (a.eval x)).run P w = .ok () { w with heap := w.heap.setIfInBounds pl.blk (.map (es.modify j fun y => { y with val := a.eval x }) row.clock) } := by
      rw [hmv, hst]
      simp [Instr.entryStore, run_getMap g2, asInt, asIntOf, k5', run_setMap g2]
    unfold Oper.wp
    simp only [execOp, ho, Sem.run_bind, hrun, Result.andThen_ok, Sem.run_pure, Oper.upon_skip]
    exact hK ρ _ _ (putMap_out hS (by simpa using h6) h7 e1 g2 (by rw [modify_list es j e _ k2]; exact g3.set k3 hx k4)) ⟨#[], rfl, rfl⟩
  · simp at h5
theorem bDelete_ok (call : CallR) (c : Call) (x y : Operand) (hc : c.callee = .builtin .delete) (hx : c.args = #[x, y]) : EffOk sy P call (.call c) (bDelete x y c.argTypes) := by
  intro ρ tm a s s' v w o K Q ho hS ht hfr h hK
  simp only [bDelete, ob_some] at h
  obtain ⟨t, h0, m', h1, k', h2, h4⟩ := h
  have hk := ev_V hS.sat.glob ht h2
  obtain ⟨q, id, row, r, pl, es, h5, h6⟩ := withMap_inv hS (ev_V hS.sat.glob ht h1) hk h4
  have fin : ∀ w', (Builtin.delete_ c.argTypes o.type #[a.eval x, a.eval y]).run P w = .ok (.tuple #[]) w' → Out sy ρ s w ρ s' w' → v = .tup [] → o.wp P a w K Q := by
    intro w' g1 g2 g3
    subst g3
    unfold Oper.wp
    have hrun : (execOp a.eval o).run P w = .ok (.value (.tuple #[])) w' := by
      simp [execOp, ho, resolve, hc, hx, invoke, builtin, g1]
    rw [hrun, Oper.upon_value]
    exact hK ρ _ _ g2 ⟨#[], rfl, rfl⟩
  have hmv := h6.val
  rcases h6.find with ⟨rfl, hf⟩ | ⟨j, p, e, rfl, g1, g2, g3, g4, g5, g6, hf⟩
  · simp [delM] at h5
    obtain ⟨rfl, rfl⟩ := h5
    have hsame : ({ w with heap := w.heap.setIfInBounds pl.blk (.map es row.clock) } : World) = w := by
      have : w.heap.setIfInBounds pl.blk (.map es row.clock) = w.heap := by
        apply Array.ext_getElem?
        intro i
        by_cases hi : i = pl.blk
        · subst hi
          have hlt := (Array.getElem?_eq_some_iff.1 h6.mem).1
          rw [h6.mem]; simp [hlt]
        · exact Array.getElem?_setIfInBounds_ne (Ne.symm hi)
      rw [this]
    refine fin w ?_ (.refl hS) rfl
    rw [hmv]
    simp [Builtin.delete_, h0, run_underlying h6.und, run_getMap h6.mem, h6.check, hf, run_setMap h6.mem, hsame]
  · simp [delM] at h5
    obtain ⟨rfl, rfl⟩ := h5
    refine fin { w with heap := w.heap.setIfInBounds pl.blk (.map (es.eraseIdxIfInBounds j) row.clock) } ?_ (putMap_out hS h6.floor h6.get h6.at_ h6.mem (by rw [eraseL_eq, Array.toList_eraseIdxIfInBounds]; exact h6.me.erase)) rfl
    rw [hmv]
    simp [Builtin.delete_, h0, run_underlying h6.und, run_getMap h6.mem, h6.check, hf, run_setMap h6.mem]
end Go.Ex

namespace Go.Ex
variable {sy : Nat → Value} {ρ : Env} {P : Program}

/-- what a function's call needs of it -/
def Enters (P : Program) (f : FuncId) : Prop := ∃ fn, P.funcs[f]? = some fn ∧ (fn.name == "runtime.NumGoroutine") = false ∧ fn.body.isNone = false
/-- what is known of calls -/
structure CallsOk (sy : Nat → Value) (P : Program) (call : CallR) : Prop where
  ok : CallOk sy P call
  enters : ∀ f args s r, call f args s = some r → Enters P f
theorem callFunc_run {f : FuncId} {args : Array Value} {w : World} (h : Enters P f) : (callFunc f args).run P w = .ok (.enter f args) w := by
  obtain ⟨fn, h1, h2, h3⟩ := h
  have h2' : ¬ (fn.name = "runtime.NumGoroutine") := by simpa using h2
  have h3' : fn.body ≠ none := by intro e; rw [e] at h3; simp at h3
  simp [callFunc, h1, h2', h3']
theorem aCallV_ok {call : CallR} (hcall : CallsOk sy P call) (c : Call) (f : Operand) (hc : c.callee = .value f) : EffOk sy P call (.call c) (aCallV f c.args) := by
  intro ρ tm a s s' v w o K Q ho hS ht hfr h hK
  simp only [aCallV, ob_some] at h
  obtain ⟨args, h1, fv, h2, h3⟩ := h
  have ha := evs_VL hS.sat.glob ht h1
  have hf := ev_V hS.sat.glob ht h2
  unfold callF at h3
  split at h3
  · rename_i fid x y
    obtain ⟨fx, fy, e1, e2, e3⟩ := hf
    rw [app_eq, app_eq] at h3
    have hen := hcall.enters _ _ _ _ h3
    have hargs : VL sy ρ (x ++ args ++ y) (fx ++ c.args.map a.eval ++ fy).toList := by
      simp only [Array.toList_append, Array.toList_map]
      exact (e2.append ha).append e3
    have hcalls := hcall.ok ρ fid _ s s' v w _ hS hargs hfr h3
    have hrun : (execOp a.eval o).run P w = .ok (.enter fid (fx ++ c.args.map a.eval ++ fy)) w := by
      simp only [execOp, ho, resolve, hc, e1, Deferred.ofValue, Sem.run_bind, Sem.run_pure, Result.andThen_ok, invoke]
      exact callFunc_run hen
    unfold Oper.wp
    rw [hrun, Oper.upon_enter]
    refine hcalls.mono fun e w' ⟨ρ', u, he, hout, hv⟩ => ?_
    subst he
    exact hK ρ' w' u hout hv
  · simp at h3

/-! a method called on an interface value -/
theorem findMe_eq {name : String} : ∀ {l : List Method} , findMe name l = l.find? fun m => m.name == name
  | [] => rfl
  | m :: l => by
    show bi (m.name == name) (some m) (findMe name l) = _
    rw [findMe_eq, List.find?_cons]
    cases m.name == name <;> rfl
theorem method_run {t : TypeId} {name : String} {f : FuncId} {v : Value} {w : World} {n : Nat} (h : (methC P t name).f = some f) : (method (n + 1) t v name).run P w = .ok (f, v) w := by
  have h' : ob (P.info? t) (fun i => ob (P.underlying t) fun d => ob (findMe name i.methods.toList) (methR d)) = some f := h
  simp only [ob_some] at h'
  obtain ⟨i, h1, d, h2, m, h3, h4⟩ := h'
  rw [findMe_eq] at h3
  have h3' : i.methods.find? (fun m => m.name == name) = some m := by rw [← h3, Array.find?_toList]
  unfold methR at h4
  split at h4
  · rename_i hp
    simp only [ob_some] at h4
    obtain ⟨⟨g, pr⟩, h5, h6⟩ := h4
    unfold methP at h6
    rw [bi_some] at h6
    obtain ⟨h7, h8⟩ := h6
    simp at h8; subst h8
    have hrec : ∀ x, (receiverAt t (.val v) pr x).run P w = .ok v w := by
      intro x
      unfold receiverAt
      cases pr with
      | true =>
        cases d <;> simp [ptrD, bi_eq] at h7
        simp [run_underlying h2, Place.get, Result.andThen]
      | false =>
        cases d <;> simp [ptrD, bi_eq] at h7 <;> simp [run_underlying h2, Place.get, Result.andThen]
    unfold method
    simp [typeInfo, h1, h3', hp, follow, h5, hrec, Result.andThen]
  · simp at h4
theorem aInvoke_ok {call : CallR} (hcall : CallsOk sy P call) (c : Call) (x : Operand) (name : String) (hc : c.callee = .invoke x name) : EffOk sy P call (.call c) (aInvoke x name c.args) := by
  intro ρ tm a s s' v w o K Q ho hS ht hfr h hK
  simp only [aInvoke, ob_some] at h
  obtain ⟨args, h1, fv, h2, h3⟩ := h
  have ha := evs_VL hS.sat.glob ht h1
  have hf := ev_V hS.sat.glob ht h2
  unfold callI at h3
  split at h3
  · rename_i t y
    obtain ⟨u, e1, e2⟩ := hf
    simp only [ob_some] at h3
    obtain ⟨fid, h4, h5⟩ := h3
    have hen := hcall.enters _ _ _ _ h5
    have hargs : VL sy ρ (y :: args) (#[u] ++ c.args.map a.eval).toList := by
      simp only [Array.toList_append, Array.toList_map]
      exact ⟨u, _, rfl, e2, ha⟩
    have hcalls := hcall.ok ρ fid _ s s' v w _ hS hargs hfr h5
    have hrun : (execOp a.eval o).run P w = .ok (.enter fid (#[u] ++ c.args.map a.eval)) w := by
      have hm : (method (P.types.size + Made.depth) t u name).run P w = .ok (fid, u) w := method_run (n := P.types.size + Made.depth - 1) h4
      have hq : (#[Value.iface t u] ++ c.args.map a.eval)[0]? = some (Value.iface t u) := by rw [Array.getElem?_append_left (by simp)]; rfl
      have hx : (#[Value.iface t u] ++ c.args.map a.eval).extract 1 (#[Value.iface t u] ++ c.args.map a.eval).size = c.args.map a.eval := by
        apply Array.ext'
        simp only [Array.toList_extract, Array.toList_append, Array.toList_map, Array.size_append, List.extract_eq_take_drop, Array.size_map, List.drop_succ_cons, List.cons_append, List.nil_append, List.drop_zero]
        exact List.take_of_length_le (by simp)
      simp only [execOp, ho, resolve, hc, e1, invoke, hq, hx, Sem.run_bind, Sem.run_pure, Result.andThen_ok, callMethod, run_program, hm]
      exact callFunc_run hen
    unfold Oper.wp
    rw [hrun, Oper.upon_enter]
    refine hcalls.mono fun e w' ⟨ρ', u, he, hout, hv⟩ => ?_
    subst he
    exact hK ρ' w' u hout hv
  · simp at h3

theorem and_true_14 {a b : Bool} : Bool.and a b = true ↔ a = true ∧ b = true := by cases a <;> cases b <;> simp
/-! a float's bits: two functions that have no text -/
theorem from_rows : (Extern.allNextRows.lookup "math.Float64frombits").isNone = true ∧ (Extern.allNextRows.lookup "").isNone = true ∧ (Extern.allNextRows.lookup "math.Float64bits").isNone = true := by decide +kernel
theorem from_gen : (Extern.allGenericRows.lookup "math.Float64frombits").isNone = true ∧ (Extern.allGenericRows.lookup "math.Float64bits").isNone = true := by decide +kernel
theorem from_typed : (Extern.allTypedRows.lookup "math.Float64frombits").isNone = true ∧ (Extern.allTypedRows.lookup "math.Float64bits").isNone = true := by decide +kernel
theorem from_all : Extern.allRows.lookup "math.Float64frombits" = some Extern.MathFloatBits.float64frombits := by kernel_rfl
theorem bits_all : Extern.allRows.lookup "math.Float64bits" = some Extern.MathFloatBits.float64bits := by kernel_rfl
theorem none_of {α : Type} {x : Option α} (h : x.isNone = true) : x = none := by cases x <;> simp at h <;> rfl
theorem ext_find {fn : Func} {n : String} {h : Array Value → Sem Value} (h1 : fn.name = n) (h2 : fn.origin = "") (a1 : (Extern.allNextRows.lookup n).isNone = true) (a2 : (Extern.allGenericRows.lookup n).isNone = true) (a3 : (Extern.allTypedRows.lookup n).isNone = true)
    (a4 : Extern.allRows.lookup n = some h) : Extern.findNext fn = none ∧ Extern.find fn = some h := by
  unfold Extern.findNext Extern.find
  simp only [h1, h2, none_of a1, none_of a2, none_of a3, a4, none_of from_rows.2.1]
  exact ⟨rfl, rfl⟩
theorem extK_inv {f : Operand} {n : Nat} (h : extK P f = n) (hn : n ≠ 0) : ∃ g fn, f = .func g ∧ P.funcs[g]? = some fn ∧ fn.body = none ∧ fn.origin = "" ∧ (n = 1 ∧ fn.name = "math.Float64frombits" ∨ n = 2 ∧ fn.name = "math.Float64bits") := by
  unfold extK at h
  split at h
  · rename_i g
    split at h
    · rename_i fn hfn
      unfold extN at h
      simp only [bi_eq] at h
      split at h
      · rename_i hb
        rw [and_true_14] at hb
        obtain ⟨b1, b2⟩ := hb
        refine ⟨g, fn, rfl, hfn, none_of b1, by simpa using b2, ?_⟩
        split at h
        · rename_i e; exact .inl ⟨h.symm, by simpa using e⟩
        · split at h
          · rename_i e; exact .inr ⟨h.symm, by simpa using e⟩
          · exact absurd h.symm hn
      · exact absurd h.symm hn
    · exact absurd h.symm hn
  · exact absurd h.symm hn
theorem ext1_ok {f : Operand} (c : Call) (x : Operand) (hc : c.callee = .value f) (hx : c.args = #[x]) (hk : extK P f = 1) : OOk sy P (.call c) (aExt ext1 x) := by
  intro ρ tm a v o ho hg ht h
  simp only [aExt, ob_some] at h
  obtain ⟨y, h1, h2⟩ := h
  have hv := ev_V hg ht h1
  obtain ⟨g, fn, rfl, k1, k2, k3, k4⟩ := extK_inv hk (by decide)
  have k5 : fn.name = "math.Float64frombits" := by rcases k4 with ⟨_, e⟩ | ⟨e, _⟩; exact e; simp at e
  obtain ⟨f1, f2⟩ := ext_find k5 k3 from_rows.1 from_gen.1 from_typed.1 from_all
  unfold ext1 at h2
  split at h2 <;> try (simp at h2; done)
  split at h2 <;> try (simp at h2; done)
  rename_i kk n kk'
  simp only [ob_some, Option.some.injEq] at h2
  obtain ⟨b, h3, rfl⟩ := h2
  have hv' : a.eval x = .int .u64 n := hv
  have hb : n.toNat = b := by cases n <;> simp [intNat] at h3; subst h3; rfl
  refine ⟨.float .f64 b, fun w => ?_, rfl⟩
  have := callFunc_ext (args := #[.int .u64 n]) (w := w) (v := .float .f64 b) k1 k2 (by rw [k5]; decide) f1 f2 (by rw [← hb]; rfl)
  simp only [execOp, ho, resolve, hc, hx, Act.eval, Deferred.ofValue, Sem.run_bind, Sem.run_pure, Result.andThen_ok, invoke]
  simpa [hv', Array.map] using this
theorem ext2_ok {f : Operand} (c : Call) (x : Operand) (hc : c.callee = .value f) (hx : c.args = #[x]) (hk : extK P f ≠ 0) (hk1 : extK P f ≠ 1) : OOk sy P (.call c) (aExt ext2 x) := by
  intro ρ tm a v o ho hg ht h
  simp only [aExt, ob_some] at h
  obtain ⟨y, h1, h2⟩ := h
  have hv := ev_V hg ht h1
  obtain ⟨g, fn, rfl, k1, k2, k3, k4⟩ := extK_inv rfl hk
  have k5 : fn.name = "math.Float64bits" := by rcases k4 with ⟨e, _⟩ | ⟨_, e⟩; exact absurd e hk1; exact e
  obtain ⟨f1, f2⟩ := ext_find k5 k3 from_rows.2.2 from_gen.2 from_typed.2 bits_all
  unfold ext2 at h2
  split at h2 <;> try (simp at h2; done)
  split at h2 <;> try (simp at h2; done)
  rename_i kk b kk'
  simp only [Option.some.injEq] at h2
  subst h2
  have hv' : a.eval x = .float .f64 b := hv
  refine ⟨.int .u64 b, fun w => ?_, rfl⟩
  have := callFunc_ext (args := #[.float .f64 b]) (w := w) (v := .int .u64 b) k1 k2 (by rw [k5]; decide) f1 f2 (by rfl)
  simp only [execOp, ho, resolve, hc, hx, Act.eval, Deferred.ofValue, Sem.run_bind, Sem.run_pure, Result.andThen_ok, invoke]
  simpa [hv', Array.map] using this
theorem kVal_inv {n : Nat} {f : Operand} {c : Call} {k : K} (h : kVal n f c = k) (hk : k ≠ .bad) : (n = 0 ∧ k = .eff (aCallV f c.args)) ∨ (n = 1 ∧ ∃ x, c.args = #[x] ∧ k = .pure (aExt ext1 x)) ∨ (n ≠ 0 ∧ n ≠ 1 ∧ ∃ x, c.args = #[x] ∧ k = .pure (aExt ext2 x)) := by
  unfold kVal at h
  split at h
  · exact .inl ⟨rfl, h.symm⟩
  · obtain ⟨x, e1, e2⟩ := ops1_inv h hk
    exact .inr (.inl ⟨rfl, x, e1, e2⟩)
  · rename_i h0 h1
    obtain ⟨x, e1, e2⟩ := ops1_inv h hk
    exact .inr (.inr ⟨fun e => h0 e, fun e => h1 e, x, e1, e2⟩)

/-! an operation, of whatever kind -/
theorem kLen_some {c : Call} {m : Bool} {k : K} (h : kLen c m = k) (hk : k ≠ .bad) : ∃ x, c.args = #[x] ∧ ((m = true ∧ k = .read (rLenM x c.argTypes)) ∨ (m = false ∧ k = .pure (bLen x c.argTypes))) := by
  unfold kLen at h
  cases m with
  | true =>
    have h' : ops1 c.args (fun x => .read (rLenM x c.argTypes)) = k := h
    obtain ⟨x, e1, e2⟩ := ops1_inv h' hk
    exact ⟨x, e1, .inl ⟨rfl, e2⟩⟩
  | false =>
    have h' : ops1 c.args (fun x => .pure (bLen x c.argTypes)) = k := h
    obtain ⟨x, e1, e2⟩ := ops1_inv h' hk
    exact ⟨x, e1, .inr ⟨rfl, e2⟩⟩
theorem kBuiltin_pure {c : Call} {b : Builtin} {f : PO} (hc : c.callee = .builtin b) (h : kBuiltin b c P = .pure f) : OOk sy P (.call c) f := by
  cases b <;> simp only [kBuiltin] at h
  case len =>
    obtain ⟨x, e1, ⟨-, e2⟩ | ⟨-, e2⟩⟩ := kLen_some h (by simp)
    · simp at e2
    · simp at e2; subst e2
      exact bLen_ok c x hc e1
  case max =>
    obtain ⟨x, y, e1, e2⟩ := ops2_inv h (by simp)
    simp at e2; subst e2
    exact max_ok c x y hc e1
  case min =>
    obtain ⟨x, y, e1, e2⟩ := ops2_inv h (by simp)
    simp at e2; subst e2
    exact min_ok c x y hc e1
  case append => obtain ⟨x, y, e1, e2⟩ := ops2_inv h (by simp); simp at e2
  case copy => obtain ⟨x, y, e1, e2⟩ := ops2_inv h (by simp); simp at e2
  case delete => obtain ⟨x, y, e1, e2⟩ := ops2_inv h (by simp); simp at e2
  case cap =>
    obtain ⟨x, e1, e2⟩ := ops1_inv h (by simp)
    simp at e2; subst e2
    exact bCap_ok c x hc e1
  all_goals simp at h
theorem kBuiltin_eff {c : Call} {b : Builtin} {call : CallR} {f : CallR → O} (hc : c.callee = .builtin b) (h : kBuiltin b c P = .eff f) : EffOk sy P call (.call c) f := by
  cases b <;> simp only [kBuiltin] at h
  case append =>
    obtain ⟨x, y, e1, e2⟩ := ops2_inv h (by simp)
    simp at e2; subst e2
    exact bApp_ok call c x y hc e1
  case copy =>
    obtain ⟨x, y, e1, e2⟩ := ops2_inv h (by simp)
    simp at e2; subst e2
    exact bCopy_ok call c x y hc e1
  case delete =>
    obtain ⟨x, y, e1, e2⟩ := ops2_inv h (by simp)
    simp at e2; subst e2
    exact bDelete_ok call c x y hc e1
  case len => obtain ⟨x, e1, ⟨-, e2⟩ | ⟨-, e2⟩⟩ := kLen_some h (by simp) <;> simp at e2
  case max => obtain ⟨x, y, e1, e2⟩ := ops2_inv h (by simp); simp at e2
  case min => obtain ⟨x, y, e1, e2⟩ := ops2_inv h (by simp); simp at e2
  case cap => obtain ⟨x, e1, e2⟩ := ops1_inv h (by simp); simp at e2
  all_goals simp at h
theorem kBuiltin_read {c : Call} {b : Builtin} {f : RO} (hc : c.callee = .builtin b) (h : kBuiltin b c P = .read f) : b = .len ∧ ∃ x, c.args = #[x] ∧ f = rLenM x c.argTypes := by
  cases b <;> simp only [kBuiltin] at h
  case len =>
    obtain ⟨x, e1, ⟨-, e2⟩ | ⟨-, e2⟩⟩ := kLen_some h (by simp)
    · simp at e2; exact ⟨rfl, x, e1, e2⟩
    · simp at e2
  all_goals first
    | (obtain ⟨x, y, e1, e2⟩ := ops2_inv h (by simp); simp at e2; done)
    | (obtain ⟨x, e1, e2⟩ := ops1_inv h (by simp); simp at e2; done)
    | (simp at h; done)
theorem kBuiltin_none {c : Call} {b : Builtin} : ∀ f, kBuiltin b c P ≠ .new f := by
  intro f h
  cases b <;> simp only [kBuiltin] at h <;> first
    | (obtain ⟨x, e1, ⟨-, e2⟩ | ⟨-, e2⟩⟩ := kLen_some h (by simp) <;> simp at e2; done)
    | (obtain ⟨x, e1, e2⟩ := ops1_inv h (by simp); simp at e2; done)
    | (obtain ⟨x, y, e1, e2⟩ := ops2_inv h (by simp); simp at e2; done)
    | (simp at h; done)
theorem kind_pure {op : Op} {f : PO} (h : kind op P = .pure f) : OOk sy P op f := by
  cases op
  case move x => cases h; exact aMove_ok x
  case assign x => cases h; exact aAssign_ok x
  case pick c x y => cases h; exact aPick_ok c x y
  case build t p => cases h; exact aBuild_ok t p
  case nilCheck x => cases h; exact aNilCheck_ok x
  case binOp o t x y u =>
    have h' : kBin o t x y u P = .pure f := h
    unfold kBin at h'
    split at h'
    · rw [bi_eq] at h'
      split at h'
      · simp at h'
      · simp at h'; subst h'; exact aBin_ok o t x y u
    · simp at h'
  case unOp o t x => cases h; exact aUn_ok o t x
  case convert s d x =>
    have h' : kConvert s d x P = .pure f := h
    unfold kConvert at h'
    split at h'
    · rename_i ds dd hs hd
      unfold kConv at h'
      split at h' <;> simp at h' <;> subst h'
      · exact cvInt_ok hd hs
      · exact cvStr_ok hd hs
      · exact cvFlo_ok hd hs
    · simp at h'
  case makeInterface t x => cases h; exact aIface_ok t x
  case makeFunc f a b => cases h; exact aFunc_ok f a b
  case slice t x l h' m => cases h; exact aSlice_ok t x l h' m
  case fieldAddr t x i => cases h; exact aFieldAddr_ok t x i
  case field t x i => cases h; exact aField_ok t x i
  case indexAddr t x i => cases h; exact aIndexAddr_ok t x i
  case index t x i => cases h; exact aIndex_ok t x i
  case typeAssert x t u ok => cases h; exact aAssert_ok x t u ok
  case extract t i => cases h; exact aExtract_ok t i
  case call c =>
    have h' : kCall c P = .pure f := h
    unfold kCall at h'
    split at h'
    · rename_i b hb; exact kBuiltin_pure hb h'
    · rename_i g hg
      rcases kVal_inv h' (by simp) with ⟨-, e⟩ | ⟨e0, x, e1, e2⟩ | ⟨e0, e0', x, e1, e2⟩
      · simp at e
      · simp at e2; subst e2; exact ext1_ok c x hg e1 e0
      · simp at e2; subst e2; exact ext2_ok c x hg e1 e0 e0'
    · simp at h'
  all_goals cases h
theorem kind_read {op : Op} {f : RO} (h : kind op P = .read f) : ReadOk sy P op f := by
  cases op
  case load t x => cases h; exact rLoad_ok t x
  case lookup t x i ok => cases h; exact rLookup_ok t x i ok
  case binOp o t x y u =>
    have h' : kBin o t x y u P = .read f := h
    unfold kBin at h'
    split at h'
    · rw [bi_eq] at h'
      split at h'
      · simp at h'; subst h'; exact rEq_ok o t x y u
      · simp at h'
    · simp at h'
  case convert s d x =>
    have h' : kConvert s d x P = .read f := h
    unfold kConvert at h'
    split at h'
    · rename_i ds dd hs hd
      unfold kConv at h'
      split at h' <;> simp at h' <;> subst h'
      exact rOfBytes_ok hs hd
    · simp at h'
  case call c =>
    have h' : kCall c P = .read f := h
    unfold kCall at h'
    split at h'
    · rename_i b hb
      obtain ⟨rfl, x, e1, rfl⟩ := kBuiltin_read hb h'
      exact rLenM_ok c x hb e1
    · rcases kVal_inv h' (by simp) with ⟨-, e⟩ | ⟨-, x, -, e⟩ | ⟨-, -, x, -, e⟩ <;> simp at e
    · simp at h'
  all_goals cases h
theorem kind_new {op : Op} {f : NO} (h : kind op P = .new f) : NewOk sy P op f := by
  cases op
  case alloc e => cases h; exact aAlloc_ok e
  case box e x => cases h; exact aBox_ok e x
  case buildSlice t n p => cases h; exact aBuildSlice_ok t n p
  case makeSlice t l c => cases h; exact aMakeSlice_ok t l c
  case binOp o t x y u =>
    have h' : kBin o t x y u P = .new f := h
    unfold kBin at h'
    split at h'
    · rw [bi_eq] at h'
      split at h' <;> simp at h'
    · simp at h'
  case convert s d x =>
    have h' : kConvert s d x P = .new f := h
    unfold kConvert at h'
    split at h'
    · rename_i ds dd hs hd
      unfold kConv at h'
      split at h' <;> simp at h' <;> subst h'
      exact cvToBytes_ok hs hd
    · simp at h'
  case call c =>
    have h' : kCall c P = .new f := h
    unfold kCall at h'
    split at h'
    · exact absurd h' (kBuiltin_none f)
    · rcases kVal_inv h' (by simp) with ⟨-, e⟩ | ⟨-, x, -, e⟩ | ⟨-, -, x, -, e⟩ <;> simp at e
    · simp at h'
  all_goals cases h
theorem kind_eff {op : Op} {f : CallR → O} {call : CallR} (hcall : CallsOk sy P call) (h : kind op P = .eff f) : EffOk sy P call op f := by
  cases op
  case store t x y => cases h; exact aStore_ok call t x y
  case makeMap t x => cases h; exact aMakeMap_ok call t x
  case insert t m k x => cases h; exact aInsert_ok call t m k x
  case mapUpdate t m k x => cases h; exact aMapUpdate_ok call t m k x
  case mapEntry t m k => cases h; exact aMapEntry_ok call t m k
  case entryStore t m st x => cases h; exact aEntryStore_ok call t m st x
  case binOp o t x y u =>
    have h' : kBin o t x y u P = .eff f := h
    unfold kBin at h'
    split at h'
    · rw [bi_eq] at h'
      split at h' <;> simp at h'
    · simp at h'
  case convert s d x =>
    have h' : kConvert s d x P = .eff f := h
    unfold kConvert at h'
    split at h'
    · unfold kConv at h'
      split at h' <;> simp at h'
    · simp at h'
  case call c =>
    have h' : kCall c P = .eff f := h
    unfold kCall at h'
    split at h'
    · rename_i b hb; exact kBuiltin_eff hb h'
    · rename_i g hg
      rcases kVal_inv h' (by simp) with ⟨-, e⟩ | ⟨-, x, -, e⟩ | ⟨-, -, x, -, e⟩ <;> simp at e
      subst e; exact aCallV_ok hcall c g hg
    · rename_i g n hg; simp at h'; subst h'; exact aInvoke_ok hcall c g n hg
  all_goals cases h
end Go.Ex

namespace Go.Ex
variable {sy : Nat → Value} {ρ : Env} {P : Program}

/-! the next id only grows; the frame's deferred calls stay -/
structure GE (s s' : St) : Prop where
  next : s.next ≤ s'.next
  ds : s'.fams.ds = s.fams.ds
theorem GE.refl (s : St) : GE s s := ⟨Nat.le_refl _, rfl⟩
theorem GE.trans {a b c : St} (h : GE a b) (k : GE b c) : GE a c := ⟨Nat.le_trans h.next k.next, k.ds.trans h.ds⟩
def Grows (call : CallR) : Prop := ∀ f args s v s', call f args s = some (v, s') → GE s s'
theorem touch_ds {s : St} {id fam off : Nat} {F : FM} (h : touch s id fam off = some F) : F.ds = s.fams.ds := by
  unfold touch at h
  split at h
  · simp at h; subst h; rfl
  · simp only [ob_some] at h
    obtain ⟨l, h1, l', h2, h3⟩ := h
    simp at h3; subst h3; rfl
theorem storeC_ge {s s' : St} {id off : Nat} {vs : List AV} (h : storeC s id off vs = some s') : s'.next = s.next ∧ GE s s' := by
  simp only [storeC, bi_some, ob_some] at h
  obtain ⟨-, row, -, h⟩ := h
  unfold storeR at h
  simp only [bi_some, ob_some, Option.some.injEq] at h
  obtain ⟨-, x, hx, y, -, rfl⟩ := h
  exact ⟨rfl, Nat.le_refl _, touch_ds hx⟩
theorem storeC_next {s s' : St} {id off : Nat} {vs : List AV} (h : storeC s id off vs = some s') : s'.next = s.next := (storeC_ge h).1
theorem storeEls_ge {z id : Nat} : ∀ {l : List (List AV)} {off : Nat} {s s' : St}, storeEls z id l off s = some s' → GE s s'
  | [], off, s, s', h => by
    have h' : some s = some s' := h
    simp at h'; subst h'; exact .refl _
  | c :: l, off, s, s', h => by
    have h' : ob (storeC s id off c) (fun s' => storeEls z id l (Nat.add off z) s') = some s' := h
    rw [ob_some] at h'
    obtain ⟨s1, h1, h2⟩ := h'
    exact (storeC_ge h1).2.trans (storeEls_ge h2)
theorem appendS_next {s s' : St} {z y n : Nat} {x v : AV} {new : List (List AV)} (h : appendS s z y x new n = some (v, s')) : GE s s' := by
  unfold appendS at h
  split at h
  · split at h
    · simp at h; rw [h.2]; exact .refl _
    · simp only [bi_some, Option.some.injEq, Prod.mk.injEq] at h
      rw [← h.2.2]; exact ⟨Nat.le_succ _, rfl⟩
  · rw [bi_eq] at h
    split at h
    · simp only [ob_some, Option.some.injEq, Prod.mk.injEq] at h
      obtain ⟨s1, h1, -, rfl⟩ := h
      exact storeEls_ge h1
    · simp only [appendN, ob_some, bi_some] at h
      obtain ⟨old, -, row, -, -, h⟩ := h
      rw [bi_eq] at h
      split at h
      · simp only [Option.some.injEq, Prod.mk.injEq] at h
        rw [← h.2]; exact ⟨Nat.le_succ _, rfl⟩
      · simp only [appendU, ob_some, bi_some, Option.some.injEq, Prod.mk.injEq] at h
        obtain ⟨-, p, -, -, rfl⟩ := h
        exact ⟨Nat.le_succ _, rfl⟩
  · simp at h
theorem appendV_next {s s' : St} {z e : Nat} {str : Bool} {x y v : AV} (h : appendV s z e str x y = some (v, s')) : GE s s' := by
  unfold appendV at h
  split at h
  · rw [bi_some] at h; exact appendS_next h.2
  · rw [bi_some] at h; exact appendS_next h.2
  · rw [bi_eq] at h
    split at h
    · simp at h
    · exact appendS_next h
  · rw [bi_eq] at h
    split at h
    · simp at h
    · rw [ob_some] at h
      obtain ⟨l, -, h⟩ := h
      exact appendS_next h
  · simp at h
theorem copyV_next {s s' : St} {z : Nat} {str : Bool} {x y v : AV} (h : copyV s z str x y = some (v, s')) : GE s s' := by
  unfold copyV at h
  split at h
  all_goals try rw [bi_eq] at h
  all_goals try split at h
  all_goals try (simp at h; done)
  all_goals first
    | (simp only [ob_some, Option.some.injEq, Prod.mk.injEq] at h
       obtain ⟨l, -, s1, h1, -, rfl⟩ := h
       exact storeEls_ge h1)
    | (simp only [ob_some, Option.some.injEq, Prod.mk.injEq] at h
       obtain ⟨s1, h1, -, rfl⟩ := h
       exact storeEls_ge h1)
    | (simp only [Option.some.injEq, Prod.mk.injEq] at h
       rw [← h.2]; exact .refl _)
theorem withMap_next {s s' : St} {t : TypeId} {m k v : AV} {f : TypeId → Nat → MRow → Option (Nat × AV × Nat) → R} (hf : ∀ e id row r, f e id row r = some (v, s') → GE s s') (h : withMap P t s m k f = some (v, s')) : GE s s' := by
  simp only [withMap, ob_some, bi_some] at h
  obtain ⟨d, -, q, -, kd, -, -, h⟩ := h
  split at h
  · simp only [ob_some, bi_some] at h
    obtain ⟨-, row, -, r, -, h⟩ := h
    exact hf _ _ _ _ h
  · simp at h
theorem putMap_ge (s : St) (id : Nat) (row : MRow) : GE s (putMap s id row) := ⟨Nat.le_refl _, rfl⟩
theorem kBuiltin_next {c : Call} {b : Builtin} {call : CallR} {f : CallR → O} (h : kBuiltin b c P = .eff f) {tm : T AV} {s s' : St} {v : AV} (hr : f call P tm s = some (v, s')) : GE s s' := by
  cases b <;> simp only [kBuiltin] at h
  case append =>
    obtain ⟨x, y, e1, e2⟩ := ops2_inv h (by simp)
    simp at e2; subst e2
    unfold bApp at hr
    rw [bi_eq] at hr
    split at hr
    · simp only [bAppZ, ob_some] at hr
      obtain ⟨_, -, _, -, v, -, u, -, hr⟩ := hr
      unfold zAppend at hr
      split at hr
      · simp only [ob_some, bi_some, Option.some.injEq, Prod.mk.injEq] at hr
        obtain ⟨_, -, -, -, rfl⟩ := hr
        exact ⟨Nat.le_succ _, rfl⟩
      · simp at hr
    · simp only [bAppN, ob_some] at hr
      obtain ⟨z, -, v, -, u, -, hr⟩ := hr
      exact appendV_next hr
  case copy =>
    obtain ⟨x, y, e1, e2⟩ := ops2_inv h (by simp)
    simp at e2; subst e2
    simp only [bCopy, ob_some] at hr
    obtain ⟨z, -, v, -, u, -, hr⟩ := hr
    exact copyV_next hr
  case delete =>
    obtain ⟨x, y, e1, e2⟩ := ops2_inv h (by simp)
    simp at e2; subst e2
    simp only [bDelete, ob_some] at hr
    obtain ⟨z, -, v, -, u, -, hr⟩ := hr
    refine withMap_next (fun e id row r hf => ?_) hr
    cases r with
    | none => simp [delM] at hf; rw [hf.2]; exact .refl _
    | some p => simp [delM] at hf; rw [← hf.2]; exact putMap_ge _ _ _
  case len => obtain ⟨x, e1, ⟨-, e2⟩ | ⟨-, e2⟩⟩ := kLen_some h (by simp) <;> simp at e2
  case max => obtain ⟨x, y, e1, e2⟩ := ops2_inv h (by simp); simp at e2
  case min => obtain ⟨x, y, e1, e2⟩ := ops2_inv h (by simp); simp at e2
  case cap => obtain ⟨x, e1, e2⟩ := ops1_inv h (by simp); simp at e2
  all_goals simp at h
theorem aMapSet_next {call : CallR} {t : TypeId} {m k x : Operand} {tm : T AV} {s s' : St} {v : AV} (hr : aMapSet t m k x call P tm s = some (v, s')) : GE s s' := by
  simp only [aMapSet, ob_some] at hr
  obtain ⟨_, -, _, -, _, -, hr⟩ := hr
  refine withMap_next (fun e id row r hf => ?_) hr
  simp only [setM, ob_some, Option.some.injEq, Prod.mk.injEq] at hf
  obtain ⟨_, -, -, rfl⟩ := hf
  exact putMap_ge _ _ _
theorem kind_next {op : Op} {f : CallR → O} {call : CallR} (hg : Grows call) (h : kind op P = .eff f) {tm : T AV} {s s' : St} {v : AV} (hr : f call P tm s = some (v, s')) : GE s s' := by
  cases op
  case store t x y =>
    cases h
    simp only [aStore, ob_some, Option.some.injEq, Prod.mk.injEq] at hr
    obtain ⟨_, -, _, -, _, -, _, -, _, -, s1, h1, -, rfl⟩ := hr
    exact (storeC_ge h1).2
  case makeMap t x =>
    cases h
    simp only [aMakeMap, ob_some, bi_some, Option.some.injEq, Prod.mk.injEq] at hr
    obtain ⟨_, -, -, -, rfl⟩ := hr
    exact ⟨Nat.le_succ _, rfl⟩
  case insert t m k x => cases h; exact aMapSet_next hr
  case mapUpdate t m k x => cases h; exact aMapSet_next hr
  case mapEntry t m k =>
    cases h
    simp only [aMapEntry, ob_some] at hr
    obtain ⟨_, -, _, -, hr⟩ := hr
    refine withMap_next (fun e id row r hf => ?_) hr
    cases r with
    | none =>
      simp only [entM, ob_some, Option.some.injEq, Prod.mk.injEq] at hf
      obtain ⟨_, -, _, -, -, rfl⟩ := hf
      exact putMap_ge _ _ _
    | some p =>
      simp only [entM, ob_some, Option.some.injEq, Prod.mk.injEq] at hf
      obtain ⟨_, -, -, rfl⟩ := hf
      exact putMap_ge _ _ _
  case entryStore t m st x =>
    cases h
    simp only [aEntryStore, ob_some] at hr
    obtain ⟨_, -, _, -, _, -, _, -, hr⟩ := hr
    unfold entS at hr
    split at hr
    · simp only [ob_some, bi_some, Option.some.injEq, Prod.mk.injEq] at hr
      obtain ⟨-, _, -, _, -, _, -, -, rfl⟩ := hr
      exact putMap_ge _ _ _
    · simp at hr
  case binOp o t x y u =>
    have h' : kBin o t x y u P = .eff f := h
    unfold kBin at h'
    split at h'
    · rw [bi_eq] at h'
      split at h' <;> simp at h'
    · simp at h'
  case convert s d x =>
    have h' : kConvert s d x P = .eff f := h
    unfold kConvert at h'
    split at h'
    · unfold kConv at h'
      split at h' <;> simp at h'
    · simp at h'
  case call c =>
    have h' : kCall c P = .eff f := h
    unfold kCall at h'
    split at h'
    · rename_i b hb; exact kBuiltin_next h' hr
    · rename_i g hgc
      rcases kVal_inv h' (by simp) with ⟨-, e⟩ | ⟨-, x, -, e⟩ | ⟨-, -, x, -, e⟩ <;> simp at e
      subst e
      simp only [aCallV, ob_some] at hr
      obtain ⟨args, -, fv, -, hr⟩ := hr
      unfold callF at hr
      split at hr
      · exact hg _ _ _ _ _ hr
      · simp at hr
    · rename_i g n hgc
      simp at h'; subst h'
      simp only [aInvoke, ob_some] at hr
      obtain ⟨args, -, fv, -, hr⟩ := hr
      unfold callI at hr
      split at hr
      · simp only [ob_some] at hr
        obtain ⟨fid, -, hr⟩ := hr
        exact hg _ _ _ _ _ hr
      · simp at hr
  all_goals cases h
theorem runK_next {op : Op} {call : CallR} (hg : Grows call) {tm : T AV} {s s' : St} {v : AV} (h : runK (kind op P) call P tm s = some (v, s')) : GE s s' := by
  cases hk : kind op P with
  | pure f =>
    rw [hk] at h
    have h' : ob (f P tm) (fun v => some (v, s)) = some (v, s') := h
    simp only [ob_some, Option.some.injEq, Prod.mk.injEq] at h'
    obtain ⟨y, -, -, rfl⟩ := h'
    exact .refl _
  | read f =>
    rw [hk] at h
    have h' : ob (f P tm s) (fun r => some (r.v, s)) = some (v, s') := h
    simp only [ob_some, Option.some.injEq, Prod.mk.injEq] at h'
    obtain ⟨y, -, -, rfl⟩ := h'
    exact .refl _
  | new f =>
    rw [hk] at h
    have h' : ob (f P tm s.next) (fun r => some (r.1, addRow s r.2)) = some (v, s') := h
    simp only [ob_some, Option.some.injEq, Prod.mk.injEq] at h'
    obtain ⟨y, -, -, rfl⟩ := h'
    exact ⟨Nat.le_succ _, rfl⟩
  | eff f =>
    rw [hk] at h
    exact kind_next hg hk h
  | bad =>
    rw [hk] at h
    have h' : (none : Option (AV × St)) = some (v, s') := h
    simp at h'

/-! a frame -/
/-- a frame of the size that the function asks, its deferred calls -/
structure Frm (nt : Nat) (D : List Deferred) (a : Act) : Prop where
  size : nt ≤ a.tmps.size
  defers : a.defers = D
/-- a world's block that is no row and no map is left as it is -/
theorem Out.keeps {s s' : St} {w w' : World} {ρ' : Env} (hS : SatS sy ρ s w) (ho : Out sy ρ s w ρ' s' w') {b : Nat} {o : Obj} (h : w.heap[b]? = some o) (h1 : o.isCells = false) (h2 : ∀ es c, o ≠ .map es c) : w'.heap[b]? = some o := by
  rw [← h]
  refine ho.fr.old b (Array.getElem?_eq_some_iff.1 h).1 ?_
  rintro (⟨i, r, pl, -, q2, q3, rfl⟩ | ⟨i, m, pl, -, q2, q3, rfl⟩)
  · obtain ⟨p, k1, -, -, k2⟩ := hS.sat.rows i r.v (hv_some.2 ⟨r, q2, rfl⟩)
    rw [q3] at k1; simp at k1; subst k1
    obtain ⟨el, k3⟩ := k2.shape
    unfold World.shape? at k3
    rw [h] at k3
    cases o <;> simp [Obj.isCells] at h1 k3
  · obtain ⟨-, p, es, k1, k2, -⟩ := hS.maps.rows i m q2
    rw [q3] at k1; simp at k1; subst k1
    rw [h] at k2
    simp at k2
    exact h2 _ _ k2
/-- a block that is no row and no map is set: what is known stands -/
theorem Out.putObj {s0 s : St} {w0 w : World} {ρ0 : Env} (h : Out sy ρ0 s0 w0 ρ s w) {b : Nat} {o : Obj} (o' : Obj) (hb : w0.heap.size ≤ b) (ho : w.heap[b]? = some o) (h1 : o.isCells = false) (h2 : ∀ es c, o ≠ .map es c) : Out sy ρ0 s0 w0 ρ s (w.putObj b o') := by
  have hne : ∀ b', b' ≠ b → (w.putObj b o').heap[b']? = w.heap[b']? := fun b' e => World.putObj_heap_other e
  refine ⟨h.ext, ⟨by simpa [World.putObj] using h.fr.size, h.fr.os, h.fr.tape, h.fr.output, fun b' hb' hn => (hne b' (by omega)).trans (h.fr.old b' hb' hn), h.fr.mono, h.fr.newid⟩, ⟨?_, h.sat.wf, h.sat.fln, h.sat.maps.keep (fun _ _ k => k) fun b' es c hm => ?_⟩⟩
  · refine h.sat.sat.keep (fun _ _ k => k) fun b' x hx => hne b' fun e => ?_
    subst e
    unfold World.shape? at hx
    rw [ho] at hx
    cases o <;> simp [Obj.isCells] at h1 hx
  · refine (hne b' fun e => ?_).trans hm
    subst e
    rw [ho] at hm; simp at hm
    exact h2 _ _ hm
/-- the deferred calls that are known: calls, and marks of ranges over functions (their blocks from B on, each before U) -/
def DfL (sy : Nat → Value) (ρ : Env) (B : Nat) (w : World) : Nat → List (AV × List AV) → List Deferred → Prop
  | _, [], ds => ds = []
  | U, d :: l, ds => (∃ f x y fx fy args r, d.1 = .fn (.func f) x y ∧ ds = ⟨.fn (.func f) fy, fx ++ args⟩ :: r ∧ VL sy ρ x fx.toList ∧ VL sy ρ y fy.toList ∧ VL sy ρ d.2 args.toList ∧ DfL sy ρ B w U l r) ∨
      ∃ b r, d.1 = .tup [] ∧ ds = ⟨.collected b, #[]⟩ :: r ∧ B ≤ b ∧ b < U ∧ w.heap[b]? = some (.deferred (some [])) ∧ DfL sy ρ B w b l r
theorem DfL.mono {ρ ρ' : Env} {B : Nat} {w w' : World} (hm : ∀ i q, ρ i = some q → ρ' i = some q) : ∀ {l : List (AV × List AV)} {U U' : Nat} {ds : List Deferred}, (∀ b, b < U → w.heap[b]? = some (.deferred (some [])) → w'.heap[b]? = some (.deferred (some []))) → U ≤ U' → DfL sy ρ B w U l ds → DfL sy ρ' B w' U' l ds
  | [], _, _, _, _, _, h => h
  | _ :: _, U, U', _, hw, hU, h => by
    rcases h with ⟨f, x, y, fx, fy, args, r, h1, h2, h3, h4, h5, h6⟩ | ⟨b, r, h1, h2, h3, h4, h5, h6⟩
    · exact .inl ⟨f, x, y, fx, fy, args, r, h1, h2, h3.mono hm, h4.mono hm, h5.mono hm, DfL.mono hm hw hU h6⟩
    · exact .inr ⟨b, r, h1, h2, h3, Nat.lt_of_lt_of_le h4 hU, hw b h4 h5, DfL.mono hm (fun b' hb' => hw b' (Nat.lt_trans hb' h4)) (Nat.le_refl _) h6⟩
structure DfOk (sy : Nat → Value) (ρ : Env) (B : Nat) (w : World) (l : List (AV × List AV)) (ds : List Deferred) : Prop where
  base : B ≤ w.heap.size
  all : DfL sy ρ B w w.heap.size l ds
theorem DfOk.nil {B : Nat} {w : World} (h : B ≤ w.heap.size) : DfOk sy ρ B w [] [] := ⟨h, rfl⟩
theorem DfOk.nil_inv {B : Nat} {w : World} {D : List Deferred} (h : DfOk sy ρ B w [] D) : D = [] := h.all
theorem DfOk.out {B : Nat} {s s' : St} {w w' : World} {ρ' : Env} {l : List (AV × List AV)} {ds : List Deferred} (h : DfOk sy ρ B w l ds) (hS : SatS sy ρ s w) (ho : Out sy ρ s w ρ' s' w') : DfOk sy ρ' B w' l ds :=
  ⟨Nat.le_trans h.base ho.fr.size, h.all.mono ho.fr.mono (fun _ _ hb => ho.keeps hS hb rfl (by simp)) ho.fr.size⟩
theorem Frm.put {nt : Nat} {D : List Deferred} {a : Act} (h : Frm nt D a) (d : Option Tmp) (u : Value) : Frm nt D (a.put d u) := by
  cases d <;> exact ⟨by simpa [Act.put] using h.size, by simpa [Act.put] using h.defers⟩
theorem TM.put {nt : Nat} {D : List Deferred} {tm : T AV} {a : Act} {o : Oper} {v : AV} {u : Value} (h : TM sy ρ tm a) (hf : Frm nt D a) (hd : dstOk nt o = true) (hv : V sy ρ v u) : TM sy ρ (put tm v o.dst) (a.put o.dst u) := by
  unfold dstOk at hd
  cases ho : o.dst with
  | none => exact h
  | some t =>
    rw [ho] at hd
    have ht : t < a.tmps.size := Nat.lt_of_lt_of_le (by simpa [Nat.blt_eq] using hd) hf.size
    intro x y hx
    have hx' : (tm.set t v).get x = some y := hx
    rw [T.get_set] at hx'
    by_cases e : x = t
    · subst e
      rw [if_pos rfl] at hx'; simp at hx'; subst hx'
      simpa [Act.put, Array.getD_eq_getD_getElem?, Array.getElem?_setIfInBounds, ht] using hv
    · rw [if_neg e] at hx'
      have := h x y hx'
      simpa [Act.put, Array.getD_eq_getD_getElem?, Array.getElem?_setIfInBounds, Ne.symm e] using this
theorem V_undef : V sy ρ (.tup []) undef := ⟨#[], rfl, rfl⟩

/-! guards -/
theorem V_notBool {v : AV} {u : Value} (h : V sy ρ v u) (h1 : ∀ b, v ≠ .bool b) (h2 : ∀ j, v ≠ .sym j) : ∀ b, u ≠ .bool b := by
  intro b e
  cases v
  case bool c => exact h1 c rfl
  case sym j => exact h2 j rfl
  all_goals (simp only [V] at h; subst e; simp at h)
theorem want_wanted {ops : Array Oper} {tm : T AV} {a : Act} {o : Oper} {w : Bool} (h : TM sy ρ tm a) (hw : want ops tm o.guard = some w) : Region.wanted o (yielded ops a.tmps) = w := by
  unfold Region.wanted
  cases hg : o.guard with
  | none => rw [hg] at hw; simpa [want] using hw
  | some p =>
    obtain ⟨j, b⟩ := p
    rw [hg] at hw
    simp only [want, ob_some] at hw
    obtain ⟨x, h1, d, h2, v, h3, h4⟩ := hw
    have hv := h d v h3
    rw [Array.getD_eq_getD_getElem?] at hv
    have hy : yielded ops a.tmps j = match a.tmps[d]? with
      | some (.bool b) => some b
      | _ => none := by unfold yielded; simp only [h1, h2, Option.bind_some]; rfl
    show (yielded ops a.tmps j == some b) = w
    rw [hy]
    by_cases hb : ∃ c, v = .bool c
    · obtain ⟨c, rfl⟩ := hb
      simp only [wantV, Option.some.injEq] at h4
      cases hz : a.tmps[d]? with
      | none => rw [hz] at hv; simp [V, undef] at hv
      | some z =>
        rw [hz] at hv
        simp [V] at hv
        subst hv
        rw [bi_eq] at h4
        cases c <;> cases b <;> simp_all
    · have h5 : ∀ j, v ≠ .sym j := by
        rintro j rfl
        simp [wantV] at h4
      have h6 : w = false := by
        cases v
        case bool c => exact absurd ⟨c, rfl⟩ hb
        case sym j => exact absurd rfl (h5 j)
        all_goals (simp [wantV] at h4; exact h4)
      have h7 := V_notBool hv (fun c e => hb ⟨c, e⟩) h5
      subst h6
      cases hz : a.tmps[d]? with
      | none => rfl
      | some z =>
        rw [hz] at h7
        cases z
        case bool c => exact absurd rfl (h7 c)
        all_goals rfl

/-! an operation, in order -/
theorem op_wp {call : CallR} (hcall : CallsOk sy P call) {o : Oper} {tm : T AV} {a : Act} {s s' : St} {v : AV} {w : World} {K : Act → World → Prop} {Q : Exit → Act → World → Prop}
    (hS : SatS sy ρ s w) (ht : TM sy ρ tm a) (hf : Fresh ρ s.next s'.next) (h : runK (kind o.op P) call P tm s = some (v, s'))
    (hK : ∀ ρ' w' u, Out sy ρ s w ρ' s' w' → V sy ρ' v u → K (a.put o.dst u) w') : o.wp P a w K Q := by
  cases hk : kind o.op P with
  | pure f =>
    rw [hk] at h
    have h' : ob (f P tm) (fun v => some (v, s)) = some (v, s') := h
    simp only [ob_some, Option.some.injEq, Prod.mk.injEq] at h'
    obtain ⟨y, h1, rfl, rfl⟩ := h'
    obtain ⟨u, g1, g2⟩ := kind_pure hk ρ tm a y o rfl hS.sat.glob ht h1
    unfold Oper.wp; rw [g1 w]
    exact hK ρ w u (.refl hS) g2
  | read f =>
    rw [hk] at h
    have h' : ob (f P tm s) (fun r => some (r.v, s)) = some (v, s') := h
    simp only [ob_some, Option.some.injEq, Prod.mk.injEq] at h'
    obtain ⟨y, h1, rfl, rfl⟩ := h'
    obtain ⟨u, g1, g2⟩ := kind_read hk ρ tm a s y o w rfl hS ht h1
    unfold Oper.wp; rw [g1]
    exact hK ρ w u (.refl hS) g2
  | new f =>
    rw [hk] at h
    have h' : ob (f P tm s.next) (fun r => some (r.1, addRow s r.2)) = some (v, s') := h
    simp only [ob_some, Option.some.injEq, Prod.mk.injEq] at h'
    obtain ⟨y, h1, rfl, rfl⟩ := h'
    have hn : ρ s.next = none := hf _ (Nat.le_refl _) (Nat.lt_succ_self _)
    obtain ⟨u, w', pl, g1, g2, g3⟩ := kind_new hk ρ tm a s.next y.1 y.2 o rfl hS.sat.glob ht h1 hn w
    unfold Oper.wp; rw [g1]
    exact hK _ w' u (addRow_out hS hn g2) g3
  | eff f =>
    rw [hk] at h
    exact kind_eff hcall hk ρ tm a s s' v w o K Q rfl hS ht hf h hK
  | bad =>
    rw [hk] at h
    have h' : (none : Option (AV × St)) = some (v, s') := h
    simp at h'

theorem allL_cons {α : Type} {f : α → Bool} {x : α} {l : List α} : allL f (x :: l) = true ↔ f x = true ∧ allL f l = true := by
  show (f x && allL f l) = true ↔ _
  simp
theorem allL_mem {α : Type} {f : α → Bool} : ∀ {l : List α}, allL f l = true ↔ ∀ x ∈ l, f x = true
  | [] => by simp; rfl
  | x :: l => by rw [allL_cons, allL_mem]; simp

theorem opsRun_cons {call : CallR} {ops : Array Oper} {o : Oper} {l : List Oper} {tm : T AV} {s : St} {r : T AV × St} (h : opsRun P call ops (o :: l) tm s = some r) :
    ∃ w v s1, want ops tm o.guard = some w ∧ opRunD P call o tm s w = some (v, s1) ∧ opsRun P call ops l (put tm v o.dst) s1 = some r := by
  have h' : ob (want ops tm o.guard) (fun w => ob (opRunD P call o tm s w) fun r => opsRun P call ops l (put tm r.1 o.dst) r.2) = some r := h
  simp only [ob_some] at h'
  obtain ⟨w, h1, ⟨v, s1⟩, h2, h3⟩ := h'
  exact ⟨w, v, s1, h1, h2, h3⟩
theorem opRun_next {call : CallR} (hg : Grows call) {o : Oper} {tm : T AV} {s s' : St} {v : AV} {w : Bool} (h : opRun P call o tm s w = some (v, s')) : GE s s' := by
  unfold opRun at h
  rw [bi_eq] at h
  split at h
  · exact runK_next hg h
  · simp at h; rw [h.2]; exact .refl _
theorem opRunD_inv {call : CallR} {o : Oper} {tm : T AV} {s s' : St} {v : AV} {w : Bool} (h : opRunD P call o tm s w = some (v, s')) :
    opRun P call o tm s w = some (v, s') ∨ ∃ c d, w = true ∧ o.op = .defer c ∧ dferV c tm = some d ∧ v = .tup [] ∧ s' = pushD s d := by
  unfold opRunD at h
  split at h
  · exact .inl h
  · rename_i c hc
    have ho : o.op = .defer c := by
      cases hop : o.op <;> rw [hop] at hc <;> simp [deferC] at hc
      rw [hc]
    rw [bi_eq] at h
    split at h
    · rename_i hw
      simp only [ob_some, Option.some.injEq, Prod.mk.injEq] at h
      obtain ⟨d, h1, h2, h3⟩ := h
      exact .inr ⟨c, d, hw, ho, h1, h2.symm, h3.symm⟩
    · rename_i hw
      have hw' : w = false := by simpa using hw
      subst hw'
      exact .inl h
theorem opRunD_next {call : CallR} (hg : Grows call) {o : Oper} {tm : T AV} {s s' : St} {v : AV} {w : Bool} (h : opRunD P call o tm s w = some (v, s')) : s.next ≤ s'.next := by
  rcases opRunD_inv h with h | ⟨c, d, -, -, -, -, rfl⟩
  · exact (opRun_next hg h).next
  · exact Nat.le_refl _
theorem opsRun_next {call : CallR} {ops : Array Oper} (hg : Grows call) : ∀ {l : List Oper} {tm : T AV} {s : St} {r : T AV × St}, opsRun P call ops l tm s = some r → s.next ≤ r.2.next
  | [], tm, s, r, h => by
    have h' : some (tm, s) = some r := h
    simp at h'; subst h'; exact Nat.le_refl _
  | o :: l, tm, s, r, h => by
    obtain ⟨w, v, s1, h1, h2, h3⟩ := opsRun_cons h
    exact Nat.le_trans (opRunD_next hg h2) (opsRun_next hg h3)
/-- the state, but for its deferred calls -/
theorem SatS.setDs {s : St} {w : World} (h : SatS sy ρ s w) (ds : List (AV × List AV)) : SatS sy ρ (setDs ds s) w := ⟨h.sat, h.wf, h.fln, h.maps⟩
theorem Out.setDs_r {s s' : St} {w w' : World} {ρ' : Env} (h : Out sy ρ s w ρ' s' w') (ds : List (AV × List AV)) : Out sy ρ s w ρ' (setDs ds s') w' := ⟨⟨h.ext.next, h.ext.floor, h.ext.dom, h.ext.mdom⟩, ⟨h.fr.size, h.fr.os, h.fr.tape, h.fr.output, h.fr.old, h.fr.mono, h.fr.newid⟩, h.sat.setDs ds⟩
theorem Out.setDs_l {s s' : St} {w w' : World} {ρ' : Env} {ds : List (AV × List AV)} (h : Out sy ρ (setDs ds s) w ρ' s' w') : Out sy ρ s w ρ' s' w' := ⟨⟨h.ext.next, h.ext.floor, h.ext.dom, h.ext.mdom⟩, ⟨h.fr.size, h.fr.os, h.fr.tape, h.fr.output, h.fr.old, h.fr.mono, h.fr.newid⟩, h.sat⟩
/-- a call is deferred -/
theorem defer_wp {c : Call} {o : Oper} {tm : T AV} {a : Act} {s : St} {d : AV × List AV} {w : World} {K : Act → World → Prop} {Q : Exit → Act → World → Prop} (ho : o.op = .defer c) (hS : SatS sy ρ s w) (ht : TM sy ρ tm a) (h : dferV c tm = some d) {D : List Deferred} {B : Nat} (hD : DfOk sy ρ B w s.fams.ds D)
    (hK : ∀ D', DfOk sy ρ B w (pushD s d).fams.ds D' → (a.defers = D → K ({ a with defers := D' }.put o.dst undef) w)) : a.defers = D → o.wp P a w K Q := by
  intro haD
  unfold dferV at h
  split at h
  · rename_i f hf
    simp only [ob_some, bi_some] at h
    obtain ⟨args, h1, v, h2, h3, h4⟩ := h
    simp at h4; subst h4
    have ha := evs_VL hS.sat.glob ht h1
    have hv := ev_V hS.sat.glob ht h2
    unfold isFn at h3
    split at h3
    · rename_i fid x y
      obtain ⟨fx, fy, e1, e2, e3⟩ := hv
      have hrun : (execOp a.eval o).run P w = .ok (.defer ⟨.fn (.func fid) fy, fx ++ c.args.map a.eval⟩) w := by
        simp [execOp, ho, resolve, hf, e1, Deferred.ofValue]
      unfold Oper.wp
      rw [hrun, Oper.upon_defer]
      have := hK (⟨.fn (.func fid) fy, fx ++ c.args.map a.eval⟩ :: D) ⟨hD.base, .inl ⟨fid, x, y, fx, fy, c.args.map a.eval, D, rfl, rfl, e2, e3, by simpa using ha, hD.all⟩⟩ haD
      rw [haD]; exact this
    · simp at h3
  · simp at h

/-! in a round, or not -/
/-- all is let in; in a round of the loop ro, if there is one -/
def FR (ro : Option Nat) : Fence := { Fence.wide with round := ro }
theorem callsIn_FR {ro : Option Nat} {n : Nat} {f : FuncId} {args : Array Value} {w : World} {R : Ending → World → Prop} (h : Calls P f args w R) : CallsIn (FR ro) n P f args w R :=
  (show CallsIn Fence.wide n P f args w R from callsIn_wide.2 h)
theorem rowsIn_FR {ro : Option Nat} {n : Nat} {r : String} {args : Array Value} {w : World} {R : Value → World → Prop} (h : Rows P r args w R) : RowsIn (FR ro) n P r args w R :=
  fun c cs _ => let ⟨v, w', q, k⟩ := h c cs; ⟨v, w', q, (show StepsIn (Machine.fenced P Fence.wide) P _ _ from stepsIn_wide.2 k)⟩
theorem wpIn_of_wp {ro : Option Nat} {n : Nat} {o : Oper} {a : Act} {w : World} {K : Act → World → Prop} {Q : Exit → Act → World → Prop} (h : o.wp P a w K Q) (hd : ro = none ∨ ∀ c, o.op ≠ .defer c) : o.wpIn (FR ro) n P a w K Q := by
  refine ⟨fun _ _ => trivial, ?_⟩
  have e : o.semAt (FR ro).round a.eval = execOp a.eval o := by
    rcases hd with rfl | hd
    · rfl
    · exact Oper.semAt_eq _ _ _ hd
  rw [e]
  unfold Oper.wp at h
  generalize (execOp a.eval o).run P w = r at *
  cases r with
  | ok x w' =>
    cases x <;> simp only [Oper.upon, Oper.uponIn] at h ⊢ <;> first
      | exact h
      | exact h.elim
      | exact ⟨fun hd => by simp [FR, Fence.wide] at hd, callsIn_FR (h.mono fun e w'' he => by cases e <;> exact he)⟩
      | exact ⟨fun hd => by simp [FR, Fence.wide] at hd, rowsIn_FR h⟩
  | halt x w' => cases x <;> simp only [Oper.upon, Oper.uponIn] at h ⊢ <;> exact h
theorem noDef_op {o : Oper} (h : noDef o = true) : ∀ c, o.op ≠ .defer c := by
  intro c e
  unfold noDef at h
  rw [e] at h
  simp [deferC] at h
theorem opsRun_wp {call : CallR} (hcall : CallsOk sy P call) (hg : Grows call) {ops : Array Oper} {nt B m : Nat} {ro : Option Nat} {Q : Exit → Act → World → Prop} (rest : List Oper) : ∀ (l : List Oper) (ρ : Env) (tm : T AV) (a : Act) (s : St) (w : World) (r : T AV × St) (D : List Deferred),
    (∀ o ∈ l, dstOk nt o = true) → (ro = none ∨ ∀ o ∈ l, noDef o = true) → SatS sy ρ s w → TM sy ρ tm a → Frm nt D a → DfOk sy ρ B w s.fams.ds D → Fresh ρ s.next r.2.next → opsRun P call ops l tm s = some r →
    (∀ ρ' w' a' D', Out sy ρ s w ρ' r.2 w' → TM sy ρ' r.1 a' → Frm nt D' a' → DfOk sy ρ' B w' r.2.fams.ds D' → wpListIn (FR ro) m P ops Q rest a' w') → wpListIn (FR ro) m P ops Q (l ++ rest) a w
  | [], ρ, tm, a, s, w, r, D, hd, hn, hS, ht, hf, hD, hfr, h, hQ => by
    have h' : some (tm, s) = some r := h
    simp at h'; subst h'
    exact hQ ρ w a D (.refl hS) ht hf hD
  | o :: l, ρ, tm, a, s, w, r, D, hd, hn, hS, ht, hf, hD, hfr, h, hQ => by
    obtain ⟨b, v, s1, h1, h2, h3⟩ := opsRun_cons h
    have hm := opsRun_next hg h3
    have hw := want_wanted ht h1
    have hno : ro = none ∨ ∀ c, o.op ≠ .defer c := hn.imp id fun k => noDef_op (k o (List.mem_cons_self ..))
    have hrest : ∀ ρ' w' u a1 D1, Out sy ρ s w ρ' s1 w' → V sy ρ' v u → TM sy ρ tm a1 → Frm nt D1 a1 → DfOk sy ρ' B w' s1.fams.ds D1 → wpListIn (FR ro) m P ops Q (l ++ rest) (a1.put o.dst u) w' := fun ρ' w' u a1 D1 ho hv ht1 hf1 hD1 => by
      refine opsRun_wp hcall hg rest l ρ' _ _ s1 w' r D1 (fun x hx => hd x (List.mem_cons_of_mem _ hx)) (hn.imp id fun k x hx => k x (List.mem_cons_of_mem _ hx)) ho.sat ((ht1.mono ho.fr.mono).put hf1 (hd o (List.mem_cons_self ..)) hv) (hf1.put _ _) hD1 (ho.fresh hfr) h3 ?_
      exact fun ρ2 w2 a2 D2 ho2 ht2 hf2 hD2 => hQ ρ2 w2 a2 D2 (ho.trans ho2 hfr) ht2 hf2 hD2
    show (if Region.wanted o (yielded ops a.tmps) then _ else _)
    rw [hw]
    rcases opRunD_inv h2 with h2 | ⟨c, d, hb, hop, hd1, hv1, rfl⟩
    · have hge := opRun_next hg h2
      unfold opRun at h2
      rw [bi_eq] at h2
      cases b with
      | true =>
        simp only [if_true] at h2 ⊢
        exact wpIn_of_wp (op_wp hcall hS ht (hfr.sub (Nat.le_refl _) hm) h2 fun ρ' w' u ho hv => hrest ρ' w' u a D ho hv ht hf (by rw [hge.ds]; exact hD.out hS ho)) hno
      | false =>
        simp at h2
        obtain ⟨rfl, rfl⟩ := h2
        simp only [Bool.false_eq_true, if_false]
        exact ⟨fun _ _ => trivial, hrest ρ w undef a D (.refl hS) V_undef ht hf hD⟩
    · subst hb; subst hv1
      simp only [if_true]
      refine wpIn_of_wp (defer_wp hop hS ht hd1 hD (fun D' hD' _ => ?_) hf.defers) hno
      exact hrest ρ w undef { a with defers := D' } D' ((Out.refl hS).setDs_r _) V_undef ht ⟨hf.size, rfl⟩ hD'
end Go.Ex

namespace Go.Ex
variable {sy : Nat → Value} {ρ : Env} {P : Program}

def exQ : Ex → Exit
  | .normal => .normal
  | .exit i => .exit i
  | .ret => .ret
/-- what a run says of its code, in a round of the loop ro, or in none -/
def Sound (ro : Option Nat) (m n : Nat) (P : Program) (c : Code) (Q : Exit → Act → World → Prop) (a : Act) (w : World) : Prop := match c with
  | .loop b => Code.roundsIn (FR ro) m P b Q n a w
  | c => c.wpIn (FR ro) m P Q a w
theorem Sound.wp {ro : Option Nat} {m n : Nat} {c : Code} {Q : Exit → Act → World → Prop} {a : Act} {w : World} (h : Sound ro m n P c Q a w) : c.wpIn (FR ro) m P Q a w := by
  cases c
  case loop b => exact wpIn_loop_rounds n h
  all_goals exact h
/-- what is known of the regions that draw their order -/
structure DrawnOk (sy : Nat → Value) (P : Program) (call : CallR) : Prop where
  ok : ∀ (ro : Option Nat) (m : Nat) (ops : Array Oper) (id nt : Nat) (ρ : Env) (tm : T AV) (a : Act) (s : St) (w : World) (r : T AV × St) (D : List Deferred) (Q : Exit → Act → World → Prop), (ro = none ∨ ∀ o ∈ ops.toList, noDef o = true) → (∀ o ∈ ops.toList, dstOk nt o = true) → SatS sy ρ s w → TM sy ρ tm a → Frm nt D a → Fresh ρ s.next r.2.next →
    drawn P call ops tm s = some r → (∀ ρ' w' a', Out sy ρ s w ρ' r.2 w' → TM sy ρ' r.1 a' → Frm nt D a' → Q .normal a' w') → (Code.region id ops true).wpIn (FR ro) m P Q a w
  grows : ∀ (ops : Array Oper) (tm : T AV) (s : St) (r : T AV × St), drawn P call ops tm s = some r → GE s r.2

theorem and_true' {a b : Bool} : Bool.and a b = true ↔ a = true ∧ b = true := by cases a <;> cases b <;> simp
end Go.Ex

namespace Go.Ex
variable {sy : Nat → Value} {ρ : Env} {P : Program}

theorem argsT_cons {a : AV} {l : List AV} {i : Nat} {t : T AV} : argsT (a :: l) i t = argsT l (i + 1) (t.set i a) := rfl
theorem argsT_V : ∀ {l : List AV} {vs : List Value} {i : Nat} {t : T AV} {g : Nat → Value}, VL sy ρ l vs → (∀ x v, t.get x = some v → V sy ρ v (g x)) → (∀ j v, vs[j]? = some v → g (i + j) = v) →
    ∀ x v, (argsT l i t).get x = some v → V sy ρ v (g x)
  | [], vs, i, t, g, hl, ht, hg, x, v, h => ht x v h
  | a :: l, vs, i, t, g, hl, ht, hg, x, v, h => by
    obtain ⟨u, r, rfl, h1, h2⟩ := hl
    rw [argsT_cons] at h
    refine argsT_V (i := i + 1) h2 (fun y z hy => ?_) (fun j z hz => ?_) x v h
    · rw [T.get_set] at hy
      by_cases e : y = i
      · subst e
        rw [if_pos rfl] at hy; simp at hy; subst hy
        rw [show g y = u from by simpa using hg 0 u rfl]; exact h1
      · rw [if_neg e] at hy; exact ht y z hy
    · rw [show i + 1 + j = i + (j + 1) from by omega]
      exact hg (j + 1) z (by simpa using hz)

def resF (a : Act) : ResultVar → Sem Value
  | .tmp t => pure (a.tmps.getD t undef)
  | .cell c t => do loadVar t (← asAddr (a.tmps.getD c undef))
theorem res1_run {tm : T AV} {a : Act} {s : St} {w : World} (hS : SatS sy ρ s w) (ht : TM sy ρ tm a) {x : ResultVar} {v : AV} (h : res1 P tm s x = some v) :
    ∃ u, (resF a x).run P w = .ok u w ∧ V sy ρ v u := by
  cases x with
  | tmp t => exact ⟨_, rfl, ht t v h⟩
  | cell c t =>
    simp only [res1, ob_some] at h
    obtain ⟨cv, h1, p, h2, h3⟩ := h
    obtain ⟨pl, e1, e2⟩ := asPtr_V h2 (ht c cv h1)
    obtain ⟨pl', u, g1, g2, g3⟩ := loadV_at hS h3
    rw [e1] at g1; simp at g1; subst g1
    refine ⟨u, ?_, g2⟩
    show (asAddr (a.tmps.getD c undef) >>= fun x => loadVar t x).run P w = _
    rw [e2]; simpa [asAddr] using g3
theorem resL_run {tm : T AV} {a : Act} {s : St} {w : World} (hS : SatS sy ρ s w) (ht : TM sy ρ tm a) : ∀ {l : List ResultVar} {r : List AV}, resL P tm s l = some r →
    ∃ us, (l.mapM (resF a)).run P w = .ok us w ∧ VL sy ρ r us
  | [], r, h => by
    have h' : some [] = some r := h
    simp at h'; subst h'
    exact ⟨[], by simp, rfl⟩
  | x :: l, r, h => by
    simp only [resL, ob_some, Option.some.injEq] at h
    obtain ⟨v, h1, rs, h2, rfl⟩ := h
    obtain ⟨u, g1, g2⟩ := res1_run hS ht h1
    obtain ⟨us, k1, k2⟩ := resL_run hS ht h2
    refine ⟨u :: us, ?_, ⟨u, us, rfl, g2, k2⟩⟩
    rw [List.mapM_cons, Sem.run_bind, g1]
    simp [k1]
theorem results_V {fn : Func} {tm : T AV} {a : Act} {s : St} {w : World} (hS : SatS sy ρ s w) (ht : TM sy ρ tm a) {l : List AV} (h : resL P tm s fn.results.toList = some l) :
    ∃ u, (results fn a.tmps).run P w = .ok u w ∧ V sy ρ (tupOf l) u := by
  obtain ⟨us, h1, h2⟩ := resL_run hS ht h
  have h3 : (results fn a.tmps).run P w = .ok (if h : us.toArray.size = 1 then us.toArray[0] else .tuple us.toArray) w := by
    show (fn.results.mapM (resF a) >>= fun (vs : Array Value) => (pure (if h : vs.size = 1 then vs[0] else .tuple vs) : Sem Value)).run P w = _
    rw [Array.mapM_eq_mapM_toList, Sem.run_bind, Sem.run_map, h1]
    simp
  rw [h3]
  refine ⟨_, rfl, ?_⟩
  unfold tupOf
  split
  · rename_i v
    obtain ⟨u, r, rfl, k1, k2⟩ := h2
    simp only [VL] at k2; subst k2
    simpa using k1
  · rename_i hne
    have hl := h2.length
    rw [dif_neg]
    · exact ⟨us.toArray, rfl, by simpa using h2⟩
    · intro e
      simp at e
      rw [e] at hl
      match l, hl with
      | [v], _ => exact hne v rfl
      | [], hl => simp at hl
      | _ :: _ :: _, hl => simp at hl

theorem args_TM {nt : Nat} {args : List AV} {vs : Array Value} (hl : VL sy ρ args vs.toList) : TM sy ρ (argsT args 0 .E) { tmps := vs ++ Array.replicate (nt - vs.size) undef, defers := [] } := by
  intro x y hx
  refine argsT_V (i := 0) (g := fun x => (vs ++ Array.replicate (nt - vs.size) undef).getD x undef) hl (fun y z hy => by rw [T.get_E] at hy; simp at hy) (fun j z hz => ?_) x y hx
  have hj : j < vs.size := by
    have := (List.getElem?_eq_some_iff.1 hz).1
    simpa using this
  have : vs[j]? = some z := by simpa using hz
  simp [Array.getD_eq_getD_getElem?, Array.getElem?_append, hj]
  simp [hj] at this
  exact this
theorem args_Frm {nt : Nat} {vs : Array Value} : Frm nt [] { tmps := vs ++ Array.replicate (nt - vs.size) undef, defers := [] } := ⟨by simp; omega, rfl⟩
theorem endD1_inv {fn : Func} {r : Ex × T AV × St} {s : St} (h : endD1 P fn r = some s) : isExit r.1 = false ∧ r.2.2.fams.ds = [] ∧ (∃ l, resL P r.2.1 r.2.2 fn.results.toList = some l) ∧ s = r.2.2 := by
  simp only [endD1, bi_some, ob_some, and_true', Option.some.injEq] at h
  obtain ⟨⟨h1, h2⟩, l, h3, h4⟩ := h
  refine ⟨by simpa using h1, ?_, ⟨l, h3⟩, h4.symm⟩
  unfold noDs at h2
  split at h2
  · rename_i hq; exact hq
  · simp at h2
/-- what is known of deferred calls -/
structure CdOk (sy : Nat → Value) (P : Program) (cd : AV × List AV → St → Option St) : Prop where
  ok : ∀ (m : Nat) (ρ : Env) (d : AV × List AV) (s s' : St) (w : World) (f : FuncId) (x y : List AV) (fx fy args : Array Value), d.1 = .fn (.func f) x y → VL sy ρ x fx.toList → VL sy ρ y fy.toList → VL sy ρ d.2 args.toList → SatS sy ρ s w → s.fams.ds = [] → Fresh ρ s.next s'.next → cd d s = some s' →
    Enters P f ∧ CallsDIn Fence.wide m P f (fx ++ args ++ fy) .returning w fun e u' w' => u' = .returning ∧ ∃ ρ' u, e = .returned u ∧ Out sy ρ s w ρ' s' w'
  mark : ∀ d s s' l, d.1 = .tup l → cd d s = some s' → s' = s
  grows : ∀ d s s', s.fams.ds = [] → cd d s = some s' → s.next ≤ s'.next ∧ s'.fams.ds = []
theorem runDs_cons {cd : AV × List AV → St → Option St} {d : AV × List AV} {l : List (AV × List AV)} {s : St} : runDs cd (d :: l) s = ob (cd d s) (runDs cd l) := rfl
theorem runDs_grows {cd : AV × List AV → St → Option St} (hc : ∀ d s s', s.fams.ds = [] → cd d s = some s' → s.next ≤ s'.next ∧ s'.fams.ds = []) : ∀ {l : List (AV × List AV)} {s s' : St}, s.fams.ds = [] → runDs cd l s = some s' → s.next ≤ s'.next
  | [], s, s', _, h => by
    have h' : some s = some s' := h
    simp at h'; subst h'; exact Nat.le_refl _
  | d :: l, s, s', hs, h => by
    rw [runDs_cons, ob_some] at h
    obtain ⟨s1, h1, h2⟩ := h
    obtain ⟨k1, k2⟩ := hc _ _ _ hs h1
    exact Nat.le_trans k1 (runDs_grows hc k2 h2)
/-- the deferred calls, one after another -/
theorem runDs_leaves {cd : AV × List AV → St → Option St} (hc : CdOk sy P cd) {fn : Func} {tmps : Array Value} {R : Ending → World → Prop} {m : Nat} {ρ0 ρ1 : Env} {s0 : St} {w0 : World} : ∀ (l : List (AV × List AV)) (ds : List Deferred) (ρ : Env) (s s' : St) (w : World) (U : Nat), Out sy ρ0 s0 w0 ρ s w → (∀ i q, ρ1 i = some q → ρ i = some q) →
    DfL sy ρ w0.heap.size w U l ds → s.fams.ds = [] → Fresh ρ0 s0.next s'.next → runDs cd l s = some s' →
    (∀ ρ' w', Out sy ρ0 s0 w0 ρ' s' w' → (∀ i q, ρ1 i = some q → ρ' i = some q) → ∃ v, (results fn tmps).run P w' = .ok v w' ∧ R (.returned v) w') → LeavesInM Fence.wide m P fn tmps R ds .returning w
  | [], ds, ρ, s, s', w, U, hO, hm, hd, hs, hfr, h, hR => by
    have h' : some s = some s' := h
    simp at h'; subst h'
    rw [show ds = [] from hd]
    exact hR ρ w hO hm
  | d :: l, ds, ρ, s, s', w, U, hO, hm, hd, hs, hfr, h, hR => by
    rw [runDs_cons, ob_some] at h
    obtain ⟨s1, h1, h2⟩ := h
    obtain ⟨k1, k2⟩ := hc.grows _ _ _ hs h1
    have hgr := runDs_grows hc.grows k2 h2
    rcases hd with ⟨f, x, y, fx, fy, args, rest, e1, rfl, e2, e3, e4, e5⟩ | ⟨b, rest, e1, rfl, e2, e3, e4, e5⟩
    · obtain ⟨hen, hcall⟩ := hc.ok (m - 1) ρ d s s1 w f x y fx fy args e1 e2 e3 e4 hO.sat hs ((hO.fresh hfr).sub (Nat.le_refl _) hgr) h1
      refine ⟨by simp, .inr ⟨fun hd => by simp [Fence.wide] at hd, .func f, fy, f, fx ++ args ++ fy, rfl, by simp only [invoke]; exact callFunc_run hen, fun _ _ => trivial, ?_⟩⟩
      refine ⟨hcall.1, fun c cs hu hroom => ?_⟩
      obtain ⟨e, u', w', fr, hq, k3, k4, k5, k6⟩ := hcall.2 c cs hu hroom
      refine ⟨e, u', w', fr, ?_, k3, k4, k5, k6⟩
      obtain ⟨rfl, ρ', u, rfl, g1⟩ := hq
      exact runDs_leaves hc l rest ρ' s1 s' w' U (hO.trans g1 (hfr.sub (Nat.le_refl _) hgr)) (fun i q hq => g1.fr.mono _ _ (hm _ _ hq)) (e5.mono g1.fr.mono (fun _ _ hb => g1.keeps hO.sat hb rfl (by simp)) (Nat.le_refl _)) k2 hfr h2 hR
    · obtain rfl := hc.mark d s s1 _ e1 h1
      refine ⟨by simp, .inl ⟨b, _, rfl, run_takeDeferred e4, ?_⟩⟩
      have hO' := hO.putObj (.deferred none) e2 e4 rfl (by simp)
      exact runDs_leaves hc l rest ρ s1 s' _ b hO' hm (e5.mono (fun _ _ k => k) (fun b' hb' hw => (World.putObj_heap_other (by omega)).trans hw) (Nat.le_refl _)) hs hfr h2 hR
theorem afterS_inv {cd : AV × List AV → St → Option St} {s s' : St} (h : afterS cd s = some s') : (s.fams.ds = [] ∧ s' = s) ∨ runDs cd s.fams.ds (setDs [] s) = some s' := by
  unfold afterS at h
  split at h
  · rename_i hq
    simp at h
    exact .inl ⟨hq, h.symm⟩
  · rename_i d l hq
    exact .inr (by rw [hq]; exact h)
theorem afterS_next {cd : AV × List AV → St → Option St} (hc : ∀ d s s', s.fams.ds = [] → cd d s = some s' → s.next ≤ s'.next ∧ s'.fams.ds = []) {s s' : St} (h : afterS cd s = some s') : s.next ≤ s'.next := by
  rcases afterS_inv h with ⟨-, rfl⟩ | k
  · exact Nat.le_refl _
  · exact (show (setDs [] s).next ≤ s'.next from runDs_grows hc rfl k)
/-- the end of a call: its deferred calls, its results -/
theorem after_leaves {cd : AV × List AV → St → Option St} (hc : CdOk sy P cd) {fn : Func} {tm : T AV} {a : Act} {nt m : Nat} {D : List Deferred} {ρ ρ' : Env} {s s0 q s1 : St} {w w' : World} {l : List AV} (h0 : afterS cd q = some s1) (h7 : resL P tm s1 fn.results.toList = some l)
    (g1 : Out sy ρ s0 w ρ' q w') (g2 : TM sy ρ' tm a) (g3 : Frm nt D a) (g4 : DfOk sy ρ' w.heap.size w' q.fams.ds D) (hs0 : s0 = setDs [] s) (hfr : Fresh ρ s.next s1.next) :
    LeavesInM Fence.wide m P fn a.tmps (fun e w' => ∃ ρ' u, e = .returned u ∧ Out sy ρ s w ρ' (setDs s.fams.ds s1) w' ∧ V sy ρ' (tupOf l) u) a.defers .returning w' := by
  subst hs0
  have hfr' : Fresh ρ (setDs [] s).next s1.next := hfr
  rw [g3.defers]
  rcases afterS_inv h0 with ⟨k1, rfl⟩ | k
  · rw [k1] at g4
    rw [g4.nil_inv]
    obtain ⟨u, m1, m2⟩ := results_V g1.sat g2 h7
    exact ⟨u, m1, ρ', u, rfl, g1.setDs_l.setDs_r _, m2⟩
  · refine runDs_leaves hc (ρ0 := ρ) (s0 := setDs [] s) (w0 := w) (ρ1 := ρ') _ D ρ' (setDs [] q) s1 w' _ (g1.setDs_r []) (fun _ _ k => k) g4.all rfl hfr' k fun ρ2 w2 g5 hm2 => ?_
    obtain ⟨u, m1, m2⟩ := results_V g5.sat (g2.mono hm2) h7
    exact ⟨u, m1, ρ2, u, rfl, g5.setDs_l.setDs_r _, m2⟩

/-- what is known of the functions whose calls are told beforehand -/
structure OvOk (sy : Nat → Value) (P : Program) (ov : OV) : Prop where
  ok : ∀ f h, ov.get f = some h → ∀ (ρ : Env) (args : List AV) (s s' : St) (v : AV) (w : World) (vs : Array Value), SatS sy ρ s w → VL sy ρ args vs.toList → Fresh ρ s.next s'.next → h args s = some (v, s') →
    Calls P f vs w fun e w' => ∃ ρ' u, e = .returned u ∧ Out sy ρ s w ρ' s' w' ∧ V sy ρ' v u
  enters : ∀ f h, ov.get f = some h → Enters P f
  grows : ∀ f h, ov.get f = some h → ∀ args s v s', h args s = some (v, s') → GE s s'
theorem OvOk.none : OvOk sy P .E := ⟨fun f h e => by rw [T.get_E] at e; simp at e, fun f h e => by rw [T.get_E] at e; simp at e, fun f h e => by rw [T.get_E] at e; simp at e⟩
end Go.Ex
