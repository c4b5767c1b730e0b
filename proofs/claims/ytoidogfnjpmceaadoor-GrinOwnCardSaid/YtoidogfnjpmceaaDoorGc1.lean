/- What a call makes: a value, in rows of its own; texts and values cloned. Conditions: lengths. -/
import Derived.Test.YtoidogfnjpmceaaDoorGc0
import Derived.Laws.OwnMore
import Derived.Deep.RegionHeld3
import Derived.Deep.DrawnRows
namespace Go.Proofs.YtoidogfnjpmceaaDoor
open Go.ChangeShapes Go.WideShapes Go.ChangeAt Go.RowKit
attribute [local go_sem ↓] Go.wp_at_zero Go.wp_at_succ

def MadeC (w : World) (Q : World → Value → List Nat → Prop) (e : Ending) (w' : World) : Prop := ∃ v F, e = .returned v ∧ Q w' v F ∧ Below w.heap.size w w' ∧ (∀ b ∈ F, w.heap.size ≤ b ∧ b < w'.heap.size) ∧ F.Nodup
theorem madeC_mk {w w' : World} {Q : World → Value → List Nat → Prop} {e : Ending} {v : Value} {F : List Nat} (h1 : e = .returned v) (h2 : Q w' v F) (h3 : Below w.heap.size w w') (h4 : ∀ b ∈ F, w.heap.size ≤ b ∧ b < w'.heap.size) (h5 : F.Nodup) : MadeC w Q e w' := ⟨v, F, h1, h2, h3, h4, h5⟩
def StQ (op : Int) (to nm : ByteArray) (t : Tg) (vals : List Vl) (alts : St) (num : Int) (w : World) (v : Value) (F : List Nat) : Prop := ∃ a1 n1 c1 a2 n2 c2, v = .agg #[.int .i64 op, .string to, .string nm, .int .i64 t.k, .string t.s, .int .i64 t.n, .slice a1 n1 c1, .slice a2 n2 c2, .int .i64 num] ∧ StO w (.step op to nm t vals alts num .nil) [.int .i64 op, .string to, .string nm, .int .i64 t.k, .string t.s, .int .i64 t.n, .slice a1 n1 c1, .slice a2 n2 c2, .int .i64 num] F
def BrQ (take : Int) (t : Tg) (num : Int) (steps : St) (w : World) (v : Value) (F : List Nat) : Prop := ∃ a1 n1 c1, v = .agg #[.int .i64 take, .int .i64 t.k, .string t.s, .int .i64 t.n, .int .i64 num, .slice a1 n1 c1] ∧ StO w (.br take t num steps .nil) [.int .i64 take, .int .i64 t.k, .string t.s, .int .i64 t.n, .int .i64 num, .slice a1 n1 c1] F
def FnQ (x : Fn) (w : World) (v : Value) (F : List Nat) : Prop := ∃ a1 n1 c1 a2 n2 c2, v = .agg #[.string x.nm, .slice a1 n1 c1, .slice a2 n2 c2] ∧ FnO w [x] [.string x.nm, .slice a1 n1 c1, .slice a2 n2 c2] F
theorem rowO_form {E k : Nat} {w : World} {v : Value} {n : Nat} {F : List Nat} {P : List Value → List Nat → Prop} (h : RowO E k w v n F P) : ∃ m a c, v = .slice a m c := by
  rcases h with ⟨-, rfl, -⟩ | ⟨-, -, g, cap, xs, F', rfl, -⟩
  · exact ⟨0, none, 0, rfl⟩
  · exact ⟨n, some ⟨g, 0, none⟩, cap, rfl⟩
theorem owns_zero {w : World} {B E k n : Nat} {v : Value} {xs : List Value} (h : w.ownsRow B E k v n xs) : w.ownsRow 0 E k v n xs := by
  refine ⟨h.1, ?_⟩
  rcases h.2 with h | ⟨g, cap, cur, h1, h2, h3⟩
  · exact .inl h
  · exact .inr ⟨g, cap, cur, h1, Nat.zero_le _, h3⟩
theorem infoStr : (Tryd.prog.info? 9).map (fun i => (i.zero, i.size, i.bytes)) = some (some (.string ⟨#[]⟩), 1, 16) := by kernel_rfl
theorem infoSt : (Tryd.prog.info? 29).map (fun i => (i.zero, i.size, i.bytes)) = some (some (.agg #[.int .i64 0, .string ⟨#[]⟩, .string ⟨#[]⟩, .int .i64 0, .string ⟨#[]⟩, .int .i64 0, .slice none 0 0, .slice none 0 0, .int .i64 0]), 9, 128) := by kernel_rfl
theorem infoBr : (Tryd.prog.info? 63).map (fun i => (i.zero, i.size, i.bytes)) = some (some (.agg #[.int .i64 0, .int .i64 0, .string ⟨#[]⟩, .int .i64 0, .int .i64 0, .slice none 0 0]), 6, 72) := by kernel_rfl
theorem infoFn : (Tryd.prog.info? 42).map (fun i => (i.zero, i.size, i.bytes)) = some (some (.agg #[.string ⟨#[]⟩, .slice none 0 0, .slice none 0 0]), 3, 64) := by kernel_rfl
theorem infoVl : (Tryd.prog.info? 36).map (fun i => (i.zero, i.size, i.bytes)) = some (some (.agg #[.int .i64 0, .string ⟨#[]⟩, .int .i64 0]), 3, 32) := by kernel_rfl
theorem vlCells_one : ∀ (l : List Vl), ∀ u ∈ vlCells l, u.oneCell' = true
  | [], _, h => by simp [vlCells] at h
  | x :: r, u, h => by
    simp only [vlCells, List.mem_cons] at h
    rcases h with rfl | rfl | rfl | h
    · rfl
    · rfl
    · rfl
    · exact vlCells_one r u h
/-- append of texts that came in to nothing. -/
theorem wpList_append_tx {P : Program} (w : World) {ops : Array Oper} {rest : List Oper} {o : Oper} {a : Act} {Q : Exit → Act → World → Prop} (hgd : o.guard = none) (s x : Operand) (t : TypeId)
    (ho : o.op = .call { callee := .builtin .append, args := #[s, x], argTypes := #[t, t] })
    (e : TypeId) (i : TypeInfo) (z : Value) (bytes : Nat) (ht : P.underlying t = some (.slice e)) (hi : P.info? e = some i) (hz : i.zero = some z)
    (hsize : i.size = 1) (hby : i.bytes = bytes) (hzs : z.cells.size = 1)
    (hs : a.eval s = .slice none 0 0)
    (ao : Option Addr) (l : List ByteArray) (m c : Nat) (hx : a.eval x = .slice ao m c) (hm : m = l.length) (hnm : 0 < m → ∃ b o, ao = some ⟨b, o, none⟩ ∧ b < w.heap.size ∧ TxIn w l b o) (hc : ao = none → c = 0)
    (hbytes : m * bytes ≤ 140737488355328) (hmm : m ≤ 1000000)
    (h : ∀ v' w', w'.ownsRow w.heap.size e 1 v' m (l.map .string) → (v' = .slice none 0 0 ↔ m = 0) → w.grownBy w' none → wpList P ops Q rest (a.put o.dst v') w') : wpList P ops Q (o :: rest) a w := by
  cases ao with
  | none =>
    have hm0 : m = 0 := by
      rcases Nat.eq_zero_or_pos m with h | h
      · exact h
      · obtain ⟨b, o, e1, -⟩ := hnm h; cases e1
    subst hm0
    have hl : l = [] := List.length_eq_zero_iff.1 hm.symm
    subst hl
    have hc0 := hc rfl
    subst hc0
    refine wpList_plain hgd fun K hK => ?_
    have hr := run_append_owned_none (P := P) w w.heap.size t o.type e i 1 ht hi (.slice none 0 0) 0 [] (World.ownsRow_nil _ _ _ _)
    unfold Oper.wp execOp
    simp only [ho, resolve, invoke, builtin, Sem.run_bind, Sem.run_pure, Result.andThen_ok, List.map_toArray, List.map_cons, List.map_nil, hs, hx, hr]
    exact hK _ _ (h (.slice none 0 0) w (World.ownsRow_nil _ _ _ _) (by simp) (World.grownBy.refl _ _))
  | some ad =>
    refine wpList_append_own w hgd s x t ho w.heap.size e i z 1 bytes ht hi hz hsize hby hzs (by decide) (.slice none 0 0) 0 [] hs (World.ownsRow_nil _ _ _ _) ad m c (l.map .string) hx (by rw [List.length_map, hm]; omega) (fun j u hu => ?_) (fun u hu => ?_) (by unfold maxLen; omega) (by rw [Nat.zero_add]; exact hbytes) (Nat.le_refl _) (fun v' w' h1 h2 h3 => h v' w' (by simpa using h1) (by rw [h3]; simp) h2)
    · have hj : j < l.length := by
        rcases Nat.lt_or_ge j l.length with h | h
        · exact h
        · rw [List.getElem?_eq_none (by simpa using h)] at hu; cases hu
      obtain ⟨b, off, e1, _, e3⟩ := hnm (by omega)
      injection e1 with e1
      subst e1
      have e2 : u = .string l[j] := by
        rw [List.getElem?_map, List.getElem?_eq_getElem hj] at hu
        exact (Option.some.inj hu).symm
      rw [e2]
      have : (⟨b, off, none⟩ : Addr).add j = ⟨b, off + j, none⟩ := by unfold Addr.add; split <;> simp_all
      rw [this]
      exact (e3 j hj).1
    · obtain ⟨q, _, rfl⟩ := List.mem_map.1 hu
      rfl
/-- append of values that came in to nothing. -/
theorem wpList_append_vl {P : Program} (w : World) {ops : Array Oper} {rest : List Oper} {o : Oper} {a : Act} {Q : Exit → Act → World → Prop} (hgd : o.guard = none) (s x : Operand) (t : TypeId)
    (ho : o.op = .call { callee := .builtin .append, args := #[s, x], argTypes := #[t, t] })
    (e : TypeId) (i : TypeInfo) (z : Value) (bytes : Nat) (ht : P.underlying t = some (.slice e)) (hi : P.info? e = some i) (hz : i.zero = some z)
    (hsize : i.size = 3) (hby : i.bytes = bytes) (hzs : z.cells.size = 3)
    (hs : a.eval s = .slice none 0 0)
    (ao : Option Addr) (l : List Vl) (m c : Nat) (hx : a.eval x = .slice ao m c) (hm : m = l.length) (hnm : 0 < m → ∃ b o, ao = some ⟨b, o, none⟩ ∧ b < w.heap.size ∧ VlIn w l b o) (hc : ao = none → c = 0)
    (hbytes : m * bytes ≤ 140737488355328) (hmm : m ≤ 1000000)
    (h : ∀ v' w', w'.ownsRow w.heap.size e 3 v' m (vlCells l) → (v' = .slice none 0 0 ↔ m = 0) → w.grownBy w' none → wpList P ops Q rest (a.put o.dst v') w') : wpList P ops Q (o :: rest) a w := by
  cases ao with
  | none =>
    have hm0 : m = 0 := by
      rcases Nat.eq_zero_or_pos m with h | h
      · exact h
      · obtain ⟨b, o, e1, -⟩ := hnm h; cases e1
    subst hm0
    have hl : l = [] := List.length_eq_zero_iff.1 hm.symm
    subst hl
    have hc0 := hc rfl
    subst hc0
    refine wpList_plain hgd fun K hK => ?_
    have hr := run_append_owned_none (P := P) w w.heap.size t o.type e i 3 ht hi (.slice none 0 0) 0 [] (World.ownsRow_nil _ _ _ _)
    unfold Oper.wp execOp
    simp only [ho, resolve, invoke, builtin, Sem.run_bind, Sem.run_pure, Result.andThen_ok, List.map_toArray, List.map_cons, List.map_nil, hs, hx, hr]
    exact hK _ _ (h (.slice none 0 0) w (World.ownsRow_nil _ _ _ _) (by simp) (World.grownBy.refl _ _))
  | some ad =>
    refine wpList_append_own w hgd s x t ho w.heap.size e i z 3 bytes ht hi hz hsize hby hzs (by decide) (.slice none 0 0) 0 [] hs (World.ownsRow_nil _ _ _ _) ad m c (vlCells l) hx (by rw [vlCells_len, hm]) (fun j u hu => ?_) (fun u hu => ?_) (by unfold maxLen; omega) (by rw [Nat.zero_add]; exact hbytes) (Nat.le_refl _) (fun v' w' h1 h2 h3 => h v' w' (by simpa using h1) (by rw [h3]; simp) h2)
    · have hj : j < l.length * 3 := by
        rcases Nat.lt_or_ge j (l.length * 3) with h | h
        · exact h
        · rw [List.getElem?_eq_none (by rw [vlCells_len]; exact h)] at hu; cases hu
      obtain ⟨b, off, e1, _, e3⟩ := hnm (by omega)
      injection e1 with e1
      subst e1
      have hi3 : j / 3 < l.length := by omega
      obtain ⟨g1, g2, g3⟩ := vlCells_get l (j / 3) hi3
      obtain ⟨q1, q2, q3, -⟩ := e3 (j / 3) hi3
      have : (⟨b, off, none⟩ : Addr).add j = ⟨b, off + j, none⟩ := by unfold Addr.add; split <;> simp_all
      rw [this, ← hu]
      rcases (by omega : j = j / 3 * 3 ∨ j = j / 3 * 3 + 1 ∨ j = j / 3 * 3 + 2) with h | h | h
      · rw [h]; simpa only [show (j / 3 * 3) / 3 = j / 3 by omega] using q1.trans g1.symm
      · rw [h]; simpa only [show (j / 3 * 3 + 1) / 3 = j / 3 by omega, Nat.add_assoc] using q2.trans g2.symm
      · rw [h]; simpa only [show (j / 3 * 3 + 2) / 3 = j / 3 by omega, Nat.add_assoc] using q3.trans g3.symm
    · exact vlCells_one l u hu
theorem owns_below {w w' : World} {B E k n : Nat} {v : Value} {xs : List Value} (h : w.ownsRow B E k v n xs) (hb : Below w.heap.size w w') : w'.ownsRow B E k v n xs := by
  refine ⟨h.1, ?_⟩
  rcases h.2 with h | ⟨g, cap, cur, h1, h2, h3, h4⟩
  · exact .inl h
  · exact .inr ⟨g, cap, cur, h1, h2, (hb.block g (Array.getElem?_eq_some_iff.1 h3).1).trans h3, h4⟩
theorem clone_step {w wr w2 w4 : World} {F Fz : List Nat} {v : Value} {g n cap : Nat} {OBJ NEW : Obj}
    (hfr : ∀ b ∈ F, w.heap.size ≤ b ∧ b < wr.heap.size ∧ some b ≠ v.ownBlock) (hnd : F.Nodup) (hv : ∀ q, v.ownBlock = some q → w.heap.size ≤ q ∧ q < wr.heap.size)
    (hb : Below w.heap.size w wr) (hbz : Below (wr.alloc OBJ).heap.size (wr.alloc OBJ) w2) (hfz : ∀ b ∈ Fz, (wr.alloc OBJ).heap.size ≤ b ∧ b < w2.heap.size) (hnz : Fz.Nodup)
    (gr : (w2.alloc NEW).grownBy w4 v.ownBlock) (hg : v.ownBlock = some g ∨ g = w2.heap.size + 1) (_hlt : g < w4.heap.size) :
    KeepF wr w4 F ∧ KeepF w2 w4 Fz ∧ Below w.heap.size w w4 ∧ (∀ b ∈ F ++ Fz, w.heap.size ≤ b ∧ b < w4.heap.size ∧ some b ≠ (Value.slice (some ⟨g, 0, none⟩) n cap).ownBlock) ∧ (F ++ Fz).Nodup := by
  have s1 : wr.heap.size + 1 ≤ w2.heap.size := by have := hbz.size; simpa using this
  have s2 : w2.heap.size + 1 ≤ w4.heap.size := by have := gr.size; simpa using this
  have hz : ∀ b ∈ Fz, wr.heap.size + 1 ≤ b ∧ b < w2.heap.size := fun b hb => by have := hfz b hb; simpa using this
  have old : ∀ b, b < wr.heap.size → some b ≠ v.ownBlock → w4.heap[b]? = wr.heap[b]? := fun b h1 h2 =>
    ((gr.block b (by simp; omega) h2).trans (Below.heap_alloc w2 _ b (by omega))).trans ((hbz.block b (by simp; omega)).trans (Below.heap_alloc wr _ b h1))
  have new : ∀ b ∈ Fz, some b ≠ v.ownBlock := fun b hb e => by
    have h1 := hz b hb
    have h2 := hv b e.symm
    omega
  refine ⟨⟨by omega, fun b hb => old b (hfr b hb).2.1 (hfr b hb).2.2⟩, ⟨by omega, fun b hb => ?_⟩, ?_, fun b hbm => ?_, ?_⟩
  · exact (gr.block b (by have := hz b hb; simp; omega) (new b hb)).trans (Below.heap_alloc w2 _ b (hz b hb).2)
  · refine Below.grown (((hb.alloc hb.size OBJ).trans (hbz.mono (by have := hb.size; simp; omega))).alloc (by have := hb.size; omega) NEW) gr (by have := hb.size; simp; omega) fun q hq => (hv q hq).1
  · have hgg : ∀ c, c ≠ g → some c ≠ (Value.slice (some ⟨g, 0, none⟩) n cap).ownBlock := fun c hc e => by
      simp only [Value.ownBlock] at e
      injection e with e
      exact hc e
    rcases List.mem_append.1 hbm with h | h
    · obtain ⟨h1, h2, h3⟩ := hfr b h
      refine ⟨h1, by omega, hgg b fun e => ?_⟩
      rcases hg with hg | hg
      · rw [hg, e] at h3; exact h3 rfl
      · omega
    · have h1 := hz b h
      have h2 := hb.size
      refine ⟨by omega, by omega, hgg b fun e => ?_⟩
      rcases hg with hg | hg
      · have := hv g hg; omega
      · omega
  · refine List.nodup_append.2 ⟨hnd, hnz, fun a ha c hc e => ?_⟩
    subst e
    have h1 := hfr a ha
    have h2 := hz a hc
    omega
theorem own_lt {w : World} {B E k n : Nat} {v : Value} {xs : List Value} (h : w.ownsRow B E k v n xs) : ∀ q, v.ownBlock = some q → B ≤ q ∧ q < w.heap.size := h.lt
theorem rowO_end {E k : Nat} {w W : World} {v : Value} {n : Nat} {xs : List Value} {F : List Nat} {P : List Value → List Nat → Prop} (ho : W.ownsRow w.heap.size E k v n xs) (hv : n = 0 → v = .slice none 0 0) (hn : n ≤ reach) (_hF : n = 0 → F = []) (hP : P xs F)
    (hfr : ∀ b ∈ F, w.heap.size ≤ b ∧ b < W.heap.size ∧ some b ≠ v.ownBlock) (hnd : F.Nodup) : ∃ G, RowO E k W v n G P ∧ (∀ b ∈ G, w.heap.size ≤ b ∧ b < W.heap.size) ∧ G.Nodup := by
  rcases Nat.eq_zero_or_pos n with h0 | h0
  · exact ⟨[], .inl ⟨h0, hv h0, rfl⟩, by simp, by simp⟩
  · have hno := ho
    rcases hno.2 with ⟨-, e1⟩ | ⟨g, cap', cur, rfl, hg, hgg, _⟩
    · omega
    · have hgl := (Array.getElem?_eq_some_iff.1 hgg).1
      refine ⟨g :: F, .inr ⟨h0, hn, g, cap', xs, F, rfl, owns_zero ho, hP, rfl⟩, fun b hb => ?_, List.nodup_cons.2 ⟨fun h => (hfr g h).2.2 rfl, hnd⟩⟩
      rcases List.mem_cons.1 hb with rfl | h
      · exact ⟨hg, hgl⟩
      · exact ⟨(hfr b h).1, (hfr b h).2.1⟩
theorem row_open {E k : Nat} {w : World} {v : Value} {n : Nat} {F : List Nat} {P : List Value → List Nat → Prop} (h : RowO E k w v n F P) : ∃ m a c, v = .slice a m c ∧ RowO E k w v n F P := by
  obtain ⟨m, a, c, e⟩ := rowO_form h
  exact ⟨m, a, c, e, h⟩
theorem row_set {w : World} {g i : Nat} {cs : Array Value} {t : TypeId} {f : Nat × Nat} (v : Value) (h : w.heap[g]? = some (.cells cs t f)) : (w.setCell ⟨g, i, none⟩ v).heap[g]? = some (.cells (cs.setIfInBounds i v) t f) := by
  simp [World.setCell, Array.getElem?_modify, h]
theorem results_row1 {P : Program} {fn : Func} {p : Tmp} {ty : TypeId} (h : fn.results = #[.cell p ty]) (tmps : Array Value) (w : World) (g : Nat) (t : TypeId) (cs : Array Value) (fr : Nat × Nat) (d : TypeDesc)
    (hp : tmps.getD p undef = .pointer (some ⟨g, 0, none⟩)) (hg : w.heap[g]? = some (.cells cs t fr))
    (hu : P.underlying ty = some d) (hd : (match d with | .struct _ | .array _ _ => true | _ => false) = true) (hi : (P.info? ty).map (·.size) = some cs.size) :
    (results fn tmps).run P w = .ok (.agg cs) w := by
  have hp' : tmps[p]?.getD undef = .pointer (some ⟨g, 0, none⟩) := by simpa using hp
  simp [results, h, hp', asAddr, run_loadVar_row w g t ty cs fr d hg hu hd hi]
theorem set_size (w : World) (a : Addr) (v : Value) : (w.setCell a v).heap.size = w.heap.size := by simp [World.setCell]
theorem keep_made {u u' wF : World} {F : List Nat} {B : Nat} (hf : ∀ b ∈ F, B ≤ b ∧ b < u.heap.size) (hb : Below u.heap.size u u') (hF : ∀ b, B ≤ b → wF.heap[b]? = u'.heap[b]?) (hs : u'.heap.size ≤ wF.heap.size) : KeepF u wF F :=
  ⟨Nat.le_trans hb.size hs, fun b h => (hF b (hf b h).1).trans (hb.block b (hf b h).2)⟩
theorem nodup_range {F G : List Nat} {s : Nat} (h1 : F.Nodup) (h2 : G.Nodup) (h3 : ∀ b ∈ F, b < s) (h4 : ∀ b ∈ G, s ≤ b) : (F ++ G).Nodup :=
  List.nodup_append.2 ⟨h1, h2, fun a ha c hc e => by subst e; have := h3 a ha; have := h4 a hc; omega⟩
theorem mem_app {F G : List Nat} {p : Nat → Prop} (h1 : ∀ b ∈ F, p b) (h2 : ∀ b ∈ G, p b) : ∀ b ∈ F ++ G, p b := fun b h => (List.mem_append.1 h).elim (h1 b) (h2 b)
theorem sizeSt (x0 x1 x2 x3 x4 x5 x6 x7 x8 : Value) : (Tryd.prog.info? 29).map (·.size) = some (#[x0, x1, x2, x3, x4, x5, x6, x7, x8] : Array Value).size := by
  show _ = some 9
  kernel_rfl
theorem sizeBr (x0 x1 x2 x3 x4 x5 : Value) : (Tryd.prog.info? 63).map (·.size) = some (#[x0, x1, x2, x3, x4, x5] : Array Value).size := by
  show _ = some 6
  kernel_rfl
theorem sizeFn (x0 x1 x2 : Value) : (Tryd.prog.info? 42).map (·.size) = some (#[x0, x1, x2] : Array Value).size := by
  show _ = some 3
  kernel_rfl
theorem sizeVl (x0 x1 x2 : Value) : (Tryd.prog.info? 36).map (·.size) = some (#[x0, x1, x2] : Array Value).size := by
  show _ = some 3
  kernel_rfl
end Go.Proofs.YtoidogfnjpmceaaDoor
