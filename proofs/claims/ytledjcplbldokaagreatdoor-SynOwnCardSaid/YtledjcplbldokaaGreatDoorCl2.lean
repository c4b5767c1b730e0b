/- What a call makes: a value, in rows of its own; texts cloned. Conditions: lengths. -/
import Derived.Test.YtledjcplbldokaaGreatDoorCl1
import Derived.Laws.OwnMore
import Derived.Deep.RegionHeld3
import Derived.Deep.DrawnRows
namespace Go.Proofs.YtledjcplbldokaaGreatDoor
open Go.ChangeShapes Go.WideShapes Go.ChangeAt Go.RowKit
attribute [local go_sem ↓] Go.wp_at_zero Go.wp_at_succ

/-- A call that answers a value that lies in new rows, and leaves what was. -/
def MadeC (w : World) (Q : World → Value → List Nat → Prop) (e : Ending) (w' : World) : Prop := ∃ v F, e = .returned v ∧ Q w' v F ∧ Below w.heap.size w w' ∧ (∀ b ∈ F, w.heap.size ≤ b ∧ b < w'.heap.size) ∧ F.Nodup
theorem madeC_mk {w w' : World} {Q : World → Value → List Nat → Prop} {e : Ending} {v : Value} {F : List Nat} (h1 : e = .returned v) (h2 : Q w' v F) (h3 : Below w.heap.size w w') (h4 : ∀ b ∈ F, w.heap.size ≤ b ∧ b < w'.heap.size) (h5 : F.Nodup) : MadeC w Q e w' := ⟨v, F, h1, h2, h3, h4, h5⟩
def TyQ (nm : ByteArray) (args : Ty) (w : World) (v : Value) (F : List Nat) : Prop := ∃ n a c, v = .agg #[.string nm, .slice a n c] ∧ TyO w (.node nm args .nil) [.string nm, .slice a n c] F
def ExQ (op : Int) (nm : ByteArray) (num : Int) (names : List ByteArray) (L alts : Ex) (w : World) (v : Value) (F : List Nat) : Prop := ∃ n1 a1 c1 n2 a2 c2 n3 a3 c3, v = .agg #[.int .i64 op, .string nm, .int .i64 num, .slice a1 n1 c1, .slice a2 n2 c2, .slice a3 n3 c3] ∧ ExO w (.expr op nm num names L alts .nil) [.int .i64 op, .string nm, .int .i64 num, .slice a1 n1 c1, .slice a2 n2 c2, .slice a3 n3 c3] F
def AlQ (take : Int) (anm : ByteArray) (anum : Int) (anames : List ByteArray) (ae : Ex) (w : World) (v : Value) (F : List Nat) : Prop := ∃ n0 a0 c0 op nm num n1 a1 c1 n2 a2 c2 n3 a3 c3, v = .agg #[.int .i64 take, .string anm, .int .i64 anum, .slice a0 n0 c0, .int .i64 op, .string nm, .int .i64 num, .slice a1 n1 c1, .slice a2 n2 c2, .slice a3 n3 c3] ∧ ExO w (.alt take anm anum anames ae .nil) [.int .i64 take, .string anm, .int .i64 anum, .slice a0 n0 c0, .int .i64 op, .string nm, .int .i64 num, .slice a1 n1 c1, .slice a2 n2 c2, .slice a3 n3 c3] F
def CoQ (x : Co) (w : World) (v : Value) (F : List Nat) : Prop := ∃ n1 a1 c1, v = .agg #[.string x.1, .slice a1 n1 c1] ∧ CoO w [x] [.string x.1, .slice a1 n1 c1] F
def DaQ (x : Da) (w : World) (v : Value) (F : List Nat) : Prop := ∃ n1 a1 c1 n2 a2 c2, v = .agg #[.string x.1, .slice a1 n1 c1, .slice a2 n2 c2] ∧ DaO w [x] [.string x.1, .slice a1 n1 c1, .slice a2 n2 c2] F
def DeQ (x : De) (w : World) (v : Value) (F : List Nat) : Prop := ∃ n0 a0 c0 op nm num n1 a1 c1 n2 a2 c2 n3 a3 c3, v = .agg #[.string x.1, .slice a0 n0 c0, .int .i64 op, .string nm, .int .i64 num, .slice a1 n1 c1, .slice a2 n2 c2, .slice a3 n3 c3] ∧ DeO w [x] [.string x.1, .slice a0 n0 c0, .int .i64 op, .string nm, .int .i64 num, .slice a1 n1 c1, .slice a2 n2 c2, .slice a3 n3 c3] F
theorem rowO_form {E k : Nat} {w : World} {v : Value} {n : Nat} {F : List Nat} {P : List Value → List Nat → Prop} (h : RowO E k w v n F P) : ∃ m a c, v = .slice a m c := by
  rcases h with ⟨-, rfl, -⟩ | ⟨-, -, g, cap, xs, F', rfl, -⟩
  · exact ⟨0, none, 0, rfl⟩
  · exact ⟨n, some ⟨g, 0, none⟩, cap, rfl⟩
theorem owns_zero {w : World} {B E k n : Nat} {v : Value} {xs : List Value} (h : w.ownsRow B E k v n xs) : w.ownsRow 0 E k v n xs := by
  refine ⟨h.1, ?_⟩
  rcases h.2 with h | ⟨g, cap, cur, h1, h2, h3⟩
  · exact .inl h
  · exact .inr ⟨g, cap, cur, h1, Nat.zero_le _, h3⟩
theorem infoStr : (Tryz.prog.info? 9).map (fun i => (i.zero, i.size, i.bytes)) = some (some (.string ⟨#[]⟩), 1, 16) := by kernel_rfl
theorem infoTy : (Tryz.prog.info? 50).map (fun i => (i.zero, i.size, i.bytes)) = some (some (.agg #[.string ⟨#[]⟩, .slice none 0 0]), 2, 40) := by kernel_rfl
theorem infoEx : (Tryz.prog.info? 35).map (fun i => (i.zero, i.size, i.bytes)) = some (some (.agg #[.int .i64 0, .string ⟨#[]⟩, .int .i64 0, .slice none 0 0, .slice none 0 0, .slice none 0 0]), 6, 104) := by kernel_rfl
theorem infoAl : (Tryz.prog.info? 83).map (fun i => (i.zero, i.size, i.bytes)) = some (some (.agg #[.int .i64 0, .string ⟨#[]⟩, .int .i64 0, .slice none 0 0, .int .i64 0, .string ⟨#[]⟩, .int .i64 0, .slice none 0 0, .slice none 0 0, .slice none 0 0]), 10, 160) := by kernel_rfl
theorem infoCo : (Tryz.prog.info? 48).map (fun i => (i.zero, i.size, i.bytes)) = some (some (.agg #[.string ⟨#[]⟩, .slice none 0 0]), 2, 40) := by kernel_rfl
theorem infoDa : (Tryz.prog.info? 45).map (fun i => (i.zero, i.size, i.bytes)) = some (some (.agg #[.string ⟨#[]⟩, .slice none 0 0, .slice none 0 0]), 3, 64) := by kernel_rfl
theorem infoDe : (Tryz.prog.info? 37).map (fun i => (i.zero, i.size, i.bytes)) = some (some (.agg #[.string ⟨#[]⟩, .slice none 0 0, .int .i64 0, .string ⟨#[]⟩, .int .i64 0, .slice none 0 0, .slice none 0 0, .slice none 0 0]), 8, 144) := by kernel_rfl

/-- append of texts that came in to nothing. -/
theorem wpList_append_tx {P : Program} (w : World) {ops : Array Oper} {rest : List Oper} {o : Oper} {a : Act} {Q : Exit → Act → World → Prop} (hgd : o.guard = none) (s x : Operand) (t : TypeId)
    (ho : o.op = .call { callee := .builtin .append, args := #[s, x], argTypes := #[t, t] })
    (e : TypeId) (i : TypeInfo) (z : Value) (bytes : Nat) (ht : P.underlying t = some (.slice e)) (hi : P.info? e = some i) (hz : i.zero = some z)
    (hsize : i.size = 1) (hby : i.bytes = bytes) (hzs : z.cells.size = 1)
    (hs : a.eval s = .slice none 0 0)
    (ao : Option Addr) (l : List ByteArray) (m c : Nat) (hx : a.eval x = .slice ao m c) (hm : m = l.length) (hnm : 0 < m → ∃ b o, ao = some ⟨b, o, none⟩ ∧ b < w.heap.size ∧ TxIn w l b o) (hc : ao = none → c = 0)
    (hbytes : m * bytes ≤ 140737488355328) (hmm : m ≤ 1000000)
    (h : ∀ v' w', w'.ownsRow w.heap.size e 1 v' m (l.map .string) → (v' = .slice none 0 0 ↔ m = 0) → w.grownBy w' none → wpList P ops Q rest (a.put o.dst v') w') : wpList P ops Q (o :: rest) a w := by
  cases ao with
  | none =>
    have hm0 : m = 0 := by
      rcases Nat.eq_zero_or_pos m with h | h
      · exact h
      · obtain ⟨b, o, e1, -⟩ := hnm h; cases e1
    subst hm0
    have hl : l = [] := List.length_eq_zero_iff.1 hm.symm
    subst hl
    have hc0 := hc rfl
    subst hc0
    refine wpList_plain hgd fun K hK => ?_
    have hr := run_append_owned_none (P := P) w w.heap.size t o.type e i 1 ht hi (.slice none 0 0) 0 [] (World.ownsRow_nil _ _ _ _)
    unfold Oper.wp execOp
    simp only [ho, resolve, invoke, builtin, Sem.run_bind, Sem.run_pure, Result.andThen_ok, List.map_toArray, List.map_cons, List.map_nil, hs, hx, hr]
    exact hK _ _ (h (.slice none 0 0) w (World.ownsRow_nil _ _ _ _) (by simp) (World.grownBy.refl _ _))
  | some ad =>
    refine wpList_append_own w hgd s x t ho w.heap.size e i z 1 bytes ht hi hz hsize hby hzs (by decide) (.slice none 0 0) 0 [] hs (World.ownsRow_nil _ _ _ _) ad m c (l.map .string) hx (by rw [List.length_map, hm]; omega) (fun j u hu => ?_) (fun u hu => ?_) (by unfold maxLen; omega) (by rw [Nat.zero_add]; exact hbytes) (Nat.le_refl _) (fun v' w' h1 h2 h3 => h v' w' (by simpa using h1) (by rw [h3]; simp) h2)
    · have hj : j < l.length := by
        rcases Nat.lt_or_ge j l.length with h | h
        · exact h
        · rw [List.getElem?_eq_none (by simpa using h)] at hu; cases hu
      obtain ⟨b, off, e1, _, e3⟩ := hnm (by omega)
      injection e1 with e1
      subst e1
      have e2 : u = .string l[j] := by
        rw [List.getElem?_map, List.getElem?_eq_getElem hj] at hu
        exact (Option.some.inj hu).symm
      rw [e2]
      have : (⟨b, off, none⟩ : Addr).add j = ⟨b, off + j, none⟩ := by unfold Addr.add; split <;> simp_all
      rw [this]
      exact (e3 j hj).1
    · obtain ⟨q, _, rfl⟩ := List.mem_map.1 hu
      rfl
set_option maxRecDepth 100000 in
set_option maxHeartbeats 8000000 in
theorem cloneNames_any (l : List ByteArray) (v : Value) (w : World) (hl : l.length ≤ 1000000) (h : SlAt w v l.length fun b o => TxIn w l b o) : Calls Tryz.prog 34 #[v] w (MadeC w fun w' v' F => RowO 9 1 w' v' l.length F (fun xs F => TxO l xs F)) := by
  obtain ⟨hn, ao, cap, rfl, hc, hs⟩ := h
  have hsz : ∀ i (h : i < l.length), l[i].size ≤ reach := fun i hi => by
    obtain ⟨b, o, -, -, ht⟩ := hs (by omega)
    exact (ht i hi).2
  obtain ⟨n, hnn⟩ : ∃ n, n = l.length := ⟨_, rfl⟩
  have HN := Lib.hid hnn
  have HS := Lib.hid hs
  have HC := Lib.hid hc
  have HZ := Lib.hid hsz
  rw [← hnn] at hn hl HS ⊢
  have hlb : n * 16 ≤ 140737488355328 := by omega
  obtain ⟨i0, hi, hz0, hz1, hz2⟩ := info_parts infoStr
  clear hs hc hsz hnn
  go_enter Tryz.func34, Tryz.ntmps34
  go_wp2_with (first
    | (at_builtin; refine wpList_append_tx _ rfl _ _ 31 rfl 9 i0 (.string ⟨#[]⟩) 16 Tryz.underlying31 hi hz0 hz1 hz2 rfl rfl ao l n cap rfl HN.out HS.out HC.out hlb hl ?_
       intro v4 w4 oA4 hz4 gr4
       have OA4 := Lib.hid oA4
       have HZ4 := Lib.hid hz4
       have GR4 := Lib.hid gr4
       clear oA4 gr4 hz4))
  go_ret
  have hbel : Below w.heap.size w w4 := (Below.refl _ w).grown GR4.out (Nat.le_refl _) (fun k hk => by cases hk)
  rcases Nat.eq_zero_or_pos n with h0 | h0
  · exact madeC_mk (F := []) rfl (.inl ⟨h0, HZ4.out.2 h0, rfl⟩) hbel (by simp) (by simp)
  · have hno := OA4.out
    rcases hno.2 with ⟨e1, -⟩ | ⟨g, cap', cur, rfl, hg, hgg, _⟩
    · have := HZ4.out.1 e1; omega
    · exact madeC_mk (F := [g]) rfl (.inr ⟨h0, hn, g, cap', _, [], rfl, owns_zero hno, ⟨rfl, HZ.out, rfl⟩, rfl⟩) hbel (by simp; exact ⟨hg, (Array.getElem?_eq_some_iff.1 hgg).1⟩) (by simp)
end Go.Proofs.YtledjcplbldokaaGreatDoor
