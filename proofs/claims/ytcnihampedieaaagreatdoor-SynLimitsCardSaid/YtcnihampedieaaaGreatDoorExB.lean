/- A checked runner of calls that are closed: what a run says of its call holds in every memory, on every schedule (part 2 of 4). No conditions of its own. -/
import Derived.Test.YtcnihampedieaaaGreatDoorExA
import Derived.LaidEql
import Derived.Laws.BytesString
import Derived.Laws.Append
import Derived.Tactics
import Derived.LoopN
import Derived.Scope
import Derived.Orders
namespace Go.Ex
variable {sy : Nat → Value} {ρ : Env} {P : Program}

/-- a look at memory, as the model does it -/
def ReadOk (sy : Nat → Value) (P : Program) (op : Op) (f : RO) : Prop :=
  ∀ (ρ : Env) (tm : T AV) (a : Act) (s : St) (r : Rd) (o : Oper) (w : World), o.op = op → SatS sy ρ s w → TM sy ρ tm a → f P tm s = some r →
    ∃ u, (execOp a.eval o).run P w = .ok (.value u) w ∧ V sy ρ r.v u

theorem rLoad_ok (t : TypeId) (x : Operand) : ReadOk sy P (.load t x) (rLoad t x) := by
  intro ρ tm a s r o w ho hs ht h
  simp only [rLoad, ob_some] at h
  obtain ⟨y, h1, p, h2, n, h3, v, h4, h5⟩ := h
  simp at h5; subst h5
  obtain ⟨pl, e1, e2⟩ := asPtr_V h2 (ev_V hs.sat.glob ht h1)
  obtain ⟨pl', u, g1, g2, g3⟩ := loadV_at hs h4
  rw [e1] at g1; simp at g1; subst g1
  exact ⟨u, by simp [execOp, ho, e2, Instr.loadAt, Instr.sureAddr, g3], g2⟩

theorem byteOf1_inv {c : List AV} {b : Nat} (h : byteOf1 c = some b) : c = [.int .u8 (b : Int)] ∧ b < 256 := by
  unfold byteOf1 at h
  split at h
  · rename_i i
    rw [ob_some] at h
    obtain ⟨n, h1, h2⟩ := h
    rw [bi_some] at h2
    obtain ⟨h2, h3⟩ := h2
    simp at h3; subst h3
    cases i <;> simp [intNat] at h1
    subst h1
    exact ⟨rfl, by simpa [Nat.blt_eq] using h2⟩
  · simp at h
theorem u8_inv {e : TypeId} {u : Bool} (h : u8? P e = some u) (hu : u = true) : P.underlying e = some (.int .u8) := by
  simp only [u8?, ob_some] at h
  obtain ⟨de, h9, h10⟩ := h
  simp at h10
  rw [hu] at h10
  cases de <;> simp [isU8] at h10
  rename_i k; cases k <;> simp at h10
  exact h9
theorem packL_inv : ∀ {l : List (List AV)} {vs : List Value} {b : Nat}, packL l = some b → VL sy ρ l.flatten vs →
    ∃ us : List UInt8, vs = us.map (fun (u : UInt8) => Value.int .u8 (u.toNat : Int)) ∧ us.length = l.length ∧ b = pack us
  | [], vs, b, h, hv => by
    have h' : some 0 = some b := h
    simp at h'; subst h'
    exact ⟨[], by rw [show vs = [] from hv]; rfl, rfl, rfl⟩
  | c :: l, vs, b, h, hv => by
    have h' : (ob (byteOf1 c) fun b => ob (packL l) fun r => some (Nat.add b (Nat.mul 256 r))) = some b := h
    simp only [ob_some] at h'
    obtain ⟨x, h1, r, h2, h3⟩ := h'
    simp at h3; subst h3
    obtain ⟨e, hx⟩ := byteOf1_inv h1
    subst e
    rw [List.flatten_cons] at hv
    obtain ⟨u, us, rfl, k1, k2⟩ := hv
    obtain ⟨ns, q1, q2, q3⟩ := packL_inv h2 k2
    have hx' : (UInt8.ofNat x).toNat = x := by simp; omega
    refine ⟨UInt8.ofNat x :: ns, ?_, by simp [q2], ?_⟩
    · have k1' : u = .int .u8 (x : Int) := k1
      rw [q1, k1', List.map_cons, hx']
    · rw [q3, pack_cons, hx']
theorem foldl_push : ∀ (us : List UInt8) (s : ByteArray), (us.map fun (u : UInt8) => (u.toNat : Int)).foldl (fun r n => r.push (UInt8.ofNat n.toNat)) s = ⟨s.data ++ us.toArray⟩
  | [], s => by simp
  | u :: us, s => by
    rw [List.map_cons, List.foldl_cons, foldl_push us]
    have : UInt8.ofNat ((u.toNat : Int)).toNat = u := by simp
    rw [this]
    congr 1
    show (s.data.push u) ++ us.toArray = _
    simp
theorem rOfBytes_ok {s d : TypeId} {x : Operand} {e : TypeId} (hs : P.underlying s = some (.slice e)) (hd : P.underlying d = some .string) : ReadOk sy P (.convert s d x) (rOfBytes s x) := by
  intro ρ tm a st r o w ho hS ht h
  simp only [rOfBytes, ob_some] at h
  obtain ⟨y, h1, h2⟩ := h
  have hv := ev_V hS.sat.glob ht h1
  cases y with
  | nils =>
    simp only [ofBytes, ob_some, bi_some] at h2
    obtain ⟨e', h3, u8, h4, h5, h6⟩ := h2
    simp at h6; subst h6
    have he : e' = e := by have := elem_und h3; rw [hs] at this; simp at this; exact this.symm
    subst he
    have e1 : a.eval x = .slice none 0 0 := hv
    exact ⟨.string .empty, by simp [execOp, ho, e1, convert, run_underlying hs, run_underlying hd, run_underlying (u8_inv h4 h5), Conv.bytesToString], .empty, rfl, rfl, rfl⟩
  | slc id off n cap z =>
    simp only [ofBytes, ob_some, bi_some] at h2
    obtain ⟨e', h3, u8, h4, h5, l, h6, b, h7, h8⟩ := h2
    simp at h8; subst h8
    have he : e' = e := by have := elem_und h3; rw [hs] at this; simp at this; exact this.symm
    subst he
    have h9 := u8_inv h4 h5
    obtain ⟨vs, c1, c2⟩ := elemsN_at hS h6
    obtain ⟨us, d1, d2, d3⟩ := packL_inv h7 c1.vals
    obtain ⟨pl, c, o', g1, g2, g3, g4⟩ := hv
    have hload : (loadCells ⟨pl.blk, o', none⟩ n).run P w = .ok ((us.map fun (u : UInt8) => (u.toNat : Int)).map (Value.int .u8)).toArray w := by
      have hn : us.length = n := by rw [d2, c1.len]
      rw [List.map_map]
      rw [show (us.map (Value.int .u8 ∘ fun (u : UInt8) => (u.toNat : Int))) = vs from by rw [d1]; rfl]
      rw [← hn, show us.length = vs.length from by rw [d1]; simp]
      refine run_loadCells_list (P := P) w _ vs (fun j v hj => ?_)
      have hn0 : n ≠ 0 := by
        intro h0
        have := c1.vlen
        rw [h0] at this
        have := (List.getElem?_eq_some_iff.1 hj).1
        omega
      obtain ⟨pl', k1, k2, k3⟩ := c2 hn0
      rw [g1] at k1; simp at k1; subst k1
      have ho' := g3 (by have := g2.1; have := g2.2.1; omega)
      subst ho'
      rw [addr_add]
      exact k3 j v hj
    have hrun := run_bytesToString (P := P) w ⟨pl.blk, o', none⟩ n c _ hload
    rw [foldl_push] at hrun
    refine ⟨.string ⟨(ByteArray.empty).data ++ us.toArray⟩, ?_, ⟨(ByteArray.empty).data ++ us.toArray⟩, rfl, ?_, ?_⟩
    · simp only [execOp, ho, g4, convert, Sem.run_bind, run_underlying hs, run_underlying hd, run_underlying h9, Result.andThen_ok, hrun, Sem.run_pure]
    · have : ((ByteArray.empty).data ++ us.toArray).toList = us := by simp
      rw [show (ByteArray.mk ((ByteArray.empty).data ++ us.toArray)).data.toList = us from this, d2, c1.len]
    · have : ((ByteArray.empty).data ++ us.toArray).toList = us := by simp
      rw [show (ByteArray.mk ((ByteArray.empty).data ++ us.toArray)).data.toList = us from this, d3]
  | _ => simp [ofBytes] at h2
theorem and_true'' {a b : Bool} : Bool.and a b = true ↔ a = true ∧ b = true := by cases a <;> cases b <;> simp
theorem or_true'' {a b : Bool} : Bool.or a b = true ↔ a = true ∨ b = true := by cases a <;> cases b <;> simp
theorem sameAddr_run {w : World} {i j : Nat} {o p : Nat} {ti tj : TypeId × Nat} (hne : i ≠ j) (hi : w.shape? i = some ti) (hj : w.shape? j = some tj) (fi : ∀ o, w.frozen? ⟨i, o, none⟩ = false) (fj : ∀ o, w.frozen? ⟨j, o, none⟩ = false) :
    (sameAddr ⟨i, o, none⟩ ⟨j, p, none⟩).run P w = .ok false w := by
  obtain ⟨a, b⟩ := ti
  obtain ⟨c, d⟩ := tj
  simp [sameAddr, hne, fi, fj, noView, viewAt, hi, hj, mayBeOne, stringish]
theorem eqAddr_run {s : St} {w : World} {i o j p : Nat} {b : Bool} {pi pj : Pl} (hS : SatS sy ρ s w) (h : eqAddr s i o j p = some b) (hi : ρ i = some pi) (hj : ρ j = some pj) :
    (sameAddr ⟨pi.blk, pi.base + o, none⟩ ⟨pj.blk, pj.base + p, none⟩).run P w = .ok b w := by
  unfold eqAddr at h
  rw [bi_eq] at h
  split at h
  · rename_i hij
    have hij' : i = j := by simpa using hij
    subst hij'
    rw [hi] at hj; simp at hj; subst hj
    simp at h; subst h
    by_cases e : o = p
    · subst e; rw [run_sameAddr_same]; simp
    · have : (⟨pi.blk, pi.base + o, none⟩ : Addr) ≠ ⟨pi.blk, pi.base + p, none⟩ := by simp [e]
      have e2 : Nat.beq o p = false := by rw [← Bool.not_eq_true]; simpa using e
      simp [sameAddr, e, e2]
  · rename_i hij
    simp only [bi_some] at h
    obtain ⟨h1, h2⟩ := h
    simp at h2; subst h2
    rw [and_true''] at h1
    obtain ⟨h1, h3⟩ := h1
    have hij' : i ≠ j := by simpa using hij
    have row : ∀ k, exactRow s k = true → ∃ r, s.hv k = some r ∧ r.exact = true := by
      intro k hk
      unfold exactRow at hk
      split at hk
      · rename_i r hr; exact ⟨r.v, hv_some.2 ⟨r, hr, rfl⟩, hk⟩
      · simp at hk
    simp at h1
    obtain ⟨r1, a1, a2⟩ := row i h1.1
    obtain ⟨r2, b1, b2⟩ := row j h1.2
    obtain ⟨p1, a3, a4, a5, a6⟩ := hS.sat.rows i r1 a1
    obtain ⟨p2, b3, b4, b5, b6⟩ := hS.sat.rows j r2 b1
    rw [hi] at a3; simp at a3; subst a3
    rw [hj] at b3; simp at b3; subst b3
    obtain ⟨e1, s1⟩ := a6.shape
    obtain ⟨e2, s2⟩ := b6.shape
    by_cases e : pi.blk = pj.blk
    · rcases hS.sat.sep i j r1 r2 pi pj hij' a1 b1 hi hj e with ⟨q1, q2, q3⟩ | ⟨q1, q2, q3, q4, q5⟩
      · have ho : o = 0 ∧ p = 0 := by
          rw [or_true'', and_true'', or_true''] at h3
          rcases h3 with ⟨x, y⟩ | x | x
          · exact ⟨by simpa using x, by simpa using y⟩
          · exact absurd (Nat.le_of_ble_eq_true x) (Nat.not_le_of_lt q1)
          · exact absurd (Nat.le_of_ble_eq_true x) (Nat.not_le_of_lt q2)
        obtain ⟨rfl, rfl⟩ := ho
        rw [e]
        simp [sameAddr, q3]
      · exact absurd (hS.sat.exfam i r1 a1 a2) q4
    have hne : pi.blk ≠ pj.blk := e
    exact sameAddr_run hne s1 s2 (a6.plain a2) (b6.plain b2)

theorem eqPtr_run {s : St} {w : World} {x y : AV} {d : TypeDesc} {b : Bool} {t : TypeId} {u v : Value} (hS : SatS sy ρ s w) (h : eqPtr P s x y d = some b) (hu : V sy ρ x u) (hv : V sy ρ y v) (ht : P.underlying t = some d) (n : Nat) :
    (Op.equalIn (n + 1) t u v).run P w = .ok b w ∧ u ≠ .nilIface ∧ (∀ c, u ≠ .agg c) ∧ binOp .eql t u v = (do pure (.bool (← Op.equal t u v))) ∧ binOp .neq t u v = (do pure (.bool (!(← Op.equal t u v)))) := by
  unfold eqPtr at h
  split at h
  · rename_i e i o j p
    rw [ob_some] at h
    obtain ⟨m, h1, h2⟩ := h
    rw [bi_eq] at h2
    split at h2
    · simp at h2
    · rename_i hm
      have hm' : ¬ m = 0 := by simpa using hm
      obtain ⟨pi, e1, rfl⟩ := hu
      obtain ⟨pj, e2, rfl⟩ := hv
      have := eqAddr_run (P := P) hS h2 e1 e2
      exact ⟨by simp [Op.equalIn, run_underlying ht, size_run h1, hm', this], by simp, by simp, by simp [binOp], by simp [binOp]⟩
  · simp at h; subst h
    rw [show u = _ from hu, show v = _ from hv]
    exact ⟨by simp [Op.equalIn, run_underlying ht], by simp, by simp, by simp [binOp], by simp [binOp]⟩
  · simp at h; subst h
    obtain ⟨pj, e2, rfl⟩ := hv
    rw [show u = _ from hu]
    exact ⟨by simp [Op.equalIn, run_underlying ht], by simp, by simp, by simp [binOp], by simp [binOp]⟩
  · simp at h; subst h
    obtain ⟨pj, e2, rfl⟩ := hu
    rw [show v = _ from hv]
    exact ⟨by simp [Op.equalIn, run_underlying ht], by simp, by simp, by simp [binOp], by simp [binOp]⟩
  · simp at h
theorem eqIfc_run {s : St} {w : World} {t t' ti : TypeId} {x y : AV} {b : Bool} {u v : Value} {ms : Array (String × TypeId)} (hS : SatS sy ρ s w) (h : eqIfc P s t t' x y = some b) (hu : V sy ρ x u) (hv : V sy ρ y v) (hi : P.underlying ti = some (.interface ms)) (n : Nat) :
    (Op.equalIn (n + 2) ti (.iface t u) (.iface t' v)).run P w = .ok b w := by
  unfold eqIfc at h
  rw [bi_eq] at h
  split at h
  · rename_i ht
    have ht' : t = t' := by simpa using ht
    subst ht'
    simp only [ob_some, bi_some] at h
    obtain ⟨c, h1, h2, d, h3, h4⟩ := h
    simp only [comparable?, ob_some] at h1
    obtain ⟨i, h5, h6⟩ := h1
    simp at h6
    have hc : i.comparable = true := by rw [h6]; exact h2
    have := (eqPtr_run hS h4 hu hv h3 n).1
    simp [Op.equalIn, run_underlying hi, typeInfo, h5, hc] at this ⊢
    exact this
  · rename_i ht
    have ht' : ¬ t = t' := by simpa using ht
    simp at h; subst h
    simp [Op.equalIn, run_underlying hi, ht']
theorem rEq_ok (op : BinOp) (t : TypeId) (x y : Operand) (q : TypeId) : ReadOk sy P (.binOp op t x y q) (rEq op t x y) := by
  intro ρ tm a s r o w ho hS ht h
  simp only [rEq, ob_some] at h
  obtain ⟨x', h1, y', h2, d, h3, b, h4, v, h5, h6⟩ := h
  simp at h6; subst h6
  have hu := ev_V hS.sat.glob ht h1
  have hv := ev_V hS.sat.glob ht h2
  have fin : ∀ (hg : (eqGuard op t x y (a.eval x) (a.eval y)).run P w = .ok () w) (he : binOp .eql t (a.eval x) (a.eval y) = (do pure (.bool (← Op.equal t (a.eval x) (a.eval y)))))
      (hn : binOp .neq t (a.eval x) (a.eval y) = (do pure (.bool (!(← Op.equal t (a.eval x) (a.eval y)))))) (hr : (Op.equal t (a.eval x) (a.eval y)).run P w = .ok b w),
      ∃ u, (execOp a.eval o).run P w = .ok (.value u) w ∧ V sy ρ v u := by
    intro hg he hn hr
    rcases eqOp_V h5 with ⟨rfl, rfl⟩ | ⟨rfl, rfl⟩
    · exact ⟨.bool b, by simp [execOp, ho, hg, he, hr], rfl⟩
    · exact ⟨.bool !b, by simp [execOp, ho, hg, hn, hr], rfl⟩
  clear h1 h2 ht
  generalize a.eval x = ux at *
  generalize a.eval y = uy at *
  unfold eqRd at h4
  split at h4
  · rename_i ms t1 z t2 z'
    obtain ⟨u1, rfl, e2⟩ := hu
    obtain ⟨u2, rfl, e4⟩ := hv
    exact fin (guard_plain (by simp) (by simp) w) (by simp [binOp]) (by simp [binOp]) (eqIfc_run hS h4 e2 e4 h3 9998)
  · rename_i ms t2 z'
    simp at h4; subst h4
    obtain ⟨u2, rfl, e4⟩ := hv
    have hu' : ux = .nilIface := hu
    subst hu'
    exact fin (by cases op <;> simp [eqGuard]) (by simp [binOp]) (by simp [binOp]) (eqP_run (P := P) (c := false) (x := .nili) (y := .ifc t2 z') (sy := sy) (ρ := ρ) rfl rfl ⟨u2, rfl, e4⟩ h3 w)
  · rename_i ms t2 z'
    simp at h4; subst h4
    obtain ⟨u2, rfl, e4⟩ := hu
    have hv' : uy = .nilIface := hv
    subst hv'
    exact fin (by cases op <;> simp [eqGuard]) (by simp [binOp]) (by simp [binOp]) (eqP_run (P := P) (c := false) (x := .ifc t2 z') (y := .nili) (sy := sy) (ρ := ρ) rfl ⟨u2, rfl, e4⟩ rfl h3 w)
  · rename_i e
    obtain ⟨k1, k2, k3, k4, k5⟩ := eqPtr_run hS h4 hu hv h3 9999
    exact fin (guard_plain k2 k3 w) k4 k5 k1
  · simp at h4
end Go.Ex

namespace Go.Ex
variable {sy : Nat → Value} {ρ : Env} {P : Program}

structure Ext (s s' : St) : Prop where
  next : s.next ≤ s'.next
  floor : s'.floor = s.floor
  dom : ∀ i, s.heap.get i = none → (i < s.next ∨ s'.next ≤ i) → s'.heap.get i = none
theorem Ext.refl (s : St) : Ext s s := ⟨Nat.le_refl _, rfl, fun _ h _ => h⟩
theorem Ext.trans {a b c : St} (h : Ext a b) (k : Ext b c) : Ext a c :=
  ⟨Nat.le_trans h.next k.next, k.floor.trans h.floor, fun i hi hr => k.dom i (h.dom i hi (hr.imp (fun x => x) (fun x => Nat.le_trans k.next x))) (hr.imp (fun x => Nat.lt_of_lt_of_le x h.next) (fun x => x))⟩
theorem Kept.ext {a b : St} (h : Kept a b) : Ext a b := ⟨Nat.le_of_eq h.next.symm, h.floor, fun i hi _ => (h.dom i).2 hi⟩
def Fresh (ρ : Env) (a b : Nat) : Prop := ∀ i, a ≤ i → i < b → ρ i = none
/-- a block of which a row may be written -/
def Owned (ρ : Env) (s : St) (b : Nat) : Prop := ∃ i r pl, s.floor ≤ i ∧ s.heap.get i = some r ∧ ρ i = some pl ∧ pl.blk = b
structure Fr (ρ ρ' : Env) (s s' : St) (w w' : World) : Prop where
  size : w.heap.size ≤ w'.heap.size
  os : w'.os = w.os
  tape : w'.tape = w.tape
  output : w'.output = w.output
  old : ∀ b, b < w.heap.size → ¬ Owned ρ s b → w'.heap[b]? = w.heap[b]?
  mono : ∀ i q, ρ i = some q → ρ' i = some q
  newid : ∀ i q, ρ' i = some q → ρ i = none → (s.next ≤ i ∧ i < s'.next) ∧ (w.heap.size ≤ q.blk ∨ Owned ρ s q.blk)
structure Out (sy : Nat → Value) (ρ : Env) (s : St) (w : World) (ρ' : Env) (s' : St) (w' : World) : Prop where
  ext : Ext s s'
  fr : Fr ρ ρ' s s' w w'
  sat : SatS sy ρ' s' w'
theorem Out.refl {s : St} {w : World} (h : SatS sy ρ s w) : Out sy ρ s w ρ s w :=
  ⟨.refl s, ⟨Nat.le_refl _, rfl, rfl, rfl, fun _ _ _ => rfl, fun _ _ h => h, fun i q h h' => by rw [h'] at h; simp at h⟩, h⟩
theorem Fresh.sub {a b c d : Nat} (h : Fresh ρ a b) (h1 : a ≤ c) (h2 : d ≤ b) : Fresh ρ c d := fun i k1 k2 => h i (Nat.le_trans h1 k1) (Nat.lt_of_lt_of_le k2 h2)
theorem Out.fresh {s s' : St} {w w' : World} {ρ' : Env} {b : Nat} (h : Out sy ρ s w ρ' s' w') (hf : Fresh ρ s.next b) : Fresh ρ' s'.next b := by
  intro i h1 h2
  cases hq : ρ' i with
  | none => rfl
  | some q =>
    have h0 := hf i (Nat.le_trans h.ext.next h1) h2
    have := (h.fr.newid i q hq h0).1.2
    omega
theorem Out.trans {s s1 s2 : St} {w w1 w2 : World} {ρ1 ρ2 : Env} (h : Out sy ρ s w ρ1 s1 w1) (k : Out sy ρ1 s1 w1 ρ2 s2 w2) (hf : Fresh ρ s.next s2.next) : Out sy ρ s w ρ2 s2 w2 := by
  have own : ∀ b, Owned ρ1 s1 b → w.heap.size ≤ b ∨ Owned ρ s b := by
    rintro b ⟨i, r, pl, h1, h2, h3, rfl⟩
    cases hq : ρ i with
    | some q =>
      have := h.fr.mono i q hq
      rw [h3] at this; simp at this; subst this
      cases hr : s.heap.get i with
      | some r0 => exact .inr ⟨i, r0, pl, by rw [← h.ext.floor]; exact h1, hr, hq, rfl⟩
      | none =>
        rcases Nat.lt_or_ge i s.next with g | g
        · rw [h.ext.dom i hr (.inl g)] at h2; simp at h2
        · rcases Nat.lt_or_ge i s1.next with g' | g'
          · rw [hf i g (Nat.lt_of_lt_of_le g' k.ext.next)] at hq; simp at hq
          · rw [h.ext.dom i hr (.inr g')] at h2; simp at h2
    | none => exact (h.fr.newid i pl h3 hq).2
  refine ⟨h.ext.trans k.ext, ⟨Nat.le_trans h.fr.size k.fr.size, k.fr.os.trans h.fr.os, k.fr.tape.trans h.fr.tape, k.fr.output.trans h.fr.output, fun b hb ho => ?_, fun i q hq => k.fr.mono i q (h.fr.mono i q hq), fun i q hq h0 => ?_⟩, k.sat⟩
  · rw [k.fr.old b (Nat.lt_of_lt_of_le hb h.fr.size) (fun ho' => (own b ho').elim (fun g => by omega) ho), h.fr.old b hb ho]
  · cases hq1 : ρ1 i with
    | some q1 =>
      have := k.fr.mono i q1 hq1
      rw [hq] at this; simp at this; subst this
      obtain ⟨⟨g1, g2⟩, g3⟩ := h.fr.newid i q hq1 h0
      exact ⟨⟨g1, Nat.lt_of_lt_of_le g2 k.ext.next⟩, g3⟩
    | none =>
      obtain ⟨⟨g1, g2⟩, g3⟩ := k.fr.newid i q hq hq1
      refine ⟨⟨Nat.le_trans h.ext.next g1, g2⟩, ?_⟩
      rcases g3 with g3 | g3
      · exact .inl (Nat.le_trans h.fr.size g3)
      · exact own _ g3
theorem TM.mono {tm : T AV} {a : Act} {ρ' : Env} (h : TM sy ρ tm a) (hm : ∀ i q, ρ i = some q → ρ' i = some q) : TM sy ρ' tm a := fun t v hv => (h t v hv).mono hm

/-- what a step that may do more than make a value does -/
def EffOk (sy : Nat → Value) (P : Program) (call : CallR) (op : Op) (f : CallR → O) : Prop :=
  ∀ (ρ : Env) (tm : T AV) (a : Act) (s s' : St) (v : AV) (w : World) (o : Oper) (K : Act → World → Prop) (Q : Exit → Act → World → Prop), o.op = op → SatS sy ρ s w → TM sy ρ tm a → Fresh ρ s.next s'.next →
    f call P tm s = some (v, s') → (∀ ρ' w' u, Out sy ρ s w ρ' s' w' → V sy ρ' v u → K (a.put o.dst u) w') → o.wp P a w K Q

theorem sized_inv {t : TypeId} {l : List AV} {n : Nat} (h : sized P t l = some n) : size? P t = some n ∧ l.length = n := by
  simp only [sized, ob_some, bi_some] at h
  obtain ⟨m, h1, h2, h3⟩ := h
  simp at h3; subst h3
  rw [lenL_eq] at h2
  exact ⟨h1, by simpa using h2⟩
theorem store_run {w : World} {t : TypeId} {b o n : Nat} {v : Value} (hn : size? P t = some n) (hl : v.cells.size = n) (hin : w.there b o n) (hf : ∀ u ∈ v.cells.toList, Flat u) :
    (Instr.storeAt t (.pointer (some ⟨b, o, none⟩)) v).run P w = .ok () (w.setCells b o v.cells.toList) := by
  have hst := run_storeCells_cells (P := P) b o v.cells.toList 0 w (fun j hj => by
    have hj' : j < n := by rw [← hl]; simpa using hj
    simpa using (hin j hj').1) (fun j hj => by
    have hj' : j < n := by rw [← hl]; simpa using hj
    simpa using (hin j hj').2) (fun u hu => (hf u hu).one)
  simp only [Nat.add_zero] at hst
  simp [Instr.storeAt, Instr.sureAddr, storeVar, size_run hn, hl, hst]
theorem storeC_out {s s' : St} {w : World} {id off : Nat} {vs : List AV} {us : List Value} (hs : SatS sy ρ s w) (h : storeC s id off vs = some s') (hv : VL sy ρ vs us) (hf : ∀ u ∈ us, Flat u) :
    ∃ pl, ρ id = some pl ∧ w.there pl.blk (pl.base + off) us.length ∧ Out sy ρ s w ρ s' (w.setCells pl.blk (pl.base + off) us) ∧ Kept s s' := by
  obtain ⟨pl, h1, h2, h3, h4, h5, row, h6⟩ := storeC_at hs h hv hf
  obtain ⟨q1, q2, q3, q4⟩ := world_setCells pl.blk us (pl.base + off) w
  refine ⟨pl, h1, h2, ⟨h4.ext, ⟨Nat.le_of_eq q1.symm, q2, q3, q4, fun b hb ho => ?_, fun _ _ k => k, fun i q k k' => by rw [k'] at k; simp at k⟩, h3⟩, h4⟩
  exact block_setCells _ _ (fun e => ho ⟨id, row, pl, h5, h6, h1, e.symm⟩) us _ w
theorem aStore_ok (call : CallR) (t : TypeId) (x y : Operand) : EffOk sy P call (.store t x y) (aStore t x y) := by
  intro ρ tm a s s' v w o K Q ho hS ht hfr h hK
  simp only [aStore, ob_some] at h
  obtain ⟨x', h1, p, h2, y', h3, l, h4, n, h5, s1, h6, h7⟩ := h
  simp at h7
  obtain ⟨rfl, rfl⟩ := h7
  obtain ⟨q1, q2⟩ := sized_inv h5
  obtain ⟨pl, e1, e2⟩ := asPtr_V h2 (ev_V hS.sat.glob ht h1)
  obtain ⟨c1, c2⟩ := (ev_V hS.sat.glob ht h3).cells h4
  obtain ⟨pl', g1, g2, g3, _⟩ := storeC_out hS h6 c1 c2
  rw [e1] at g1; simp at g1; subst g1
  have hl : (a.eval y).cells.size = n := by rw [← q2, ← c1.length]; simp
  have hrun := store_run (P := P) q1 hl (by rw [← hl]; simpa using g2) c2
  unfold Oper.wp
  simp only [execOp, ho, e2, Sem.run_bind, hrun, Result.andThen_ok, Sem.run_pure, Oper.upon_skip]
  exact hK ρ _ _ g3 ⟨#[], rfl, rfl⟩
end Go.Ex

namespace Go.Ex
variable {sy : Nat → Value} {ρ : Env} {P : Program}

theorem setCells_append (b : Nat) : ∀ (us vs : List Value) (o : Nat) (w : World), w.setCells b o (us ++ vs) = (w.setCells b o us).setCells b (o + us.length) vs
  | [], vs, o, w => by simp [World.setCells]
  | u :: us, vs, o, w => by
    show (w.setCell ⟨b, o, none⟩ u).setCells b (o + 1) (us ++ vs) = ((w.setCell ⟨b, o, none⟩ u).setCells b (o + 1) us).setCells b (o + (us.length + 1)) vs
    rw [setCells_append b us vs, show o + 1 + us.length = o + (us.length + 1) from by omega]
theorem there_back {w : World} {b o n b' o' : Nat} {vs : List Value} {x : TypeId × Nat} (hs : w.shape? b' = some x) (h : (w.setCells b o vs).there b' o' n) : w.there b' o' n := by
  intro j hj
  obtain ⟨h1, h2⟩ := h j hj
  obtain ⟨el, m⟩ := x
  rw [World.frozen?_setCells] at h2
  refine ⟨?_, h2⟩
  rw [cell_of_shape (by rw [shape_setCells]; exact hs)] at h1
  rw [cell_of_shape hs]; exact h1
theorem storeEls_out {z id : Nat} : ∀ {l : List (List AV)} {off n : Nat} {s s' : St} {w : World} {us : List Value}, SatS sy ρ s w → storeEls z id l off s = some s' → Ch sy ρ z l n us →
    (l = [] ∧ s' = s ∧ us = []) ∨ ∃ pl, ρ id = some pl ∧ w.there pl.blk (pl.base + off) us.length ∧ Out sy ρ s w ρ s' (w.setCells pl.blk (pl.base + off) us) ∧ Kept s s'
  | [], off, n, s, s', w, us, hs, h, hc => by
    have h' : some s = some s' := h
    simp at h'; subst h'
    exact .inl ⟨rfl, rfl, hc.vals⟩
  | c :: l, off, n, s, s', w, us, hs, h, hc => by
    have h' : (ob (storeC s id off c) fun s1 => storeEls z id l (Nat.add off z) s1) = some s' := h
    simp only [ob_some] at h'
    obtain ⟨s1, h1, h2⟩ := h'
    have hcl := hc.each c List.mem_cons_self
    have hv := hc.vals
    rw [List.flatten_cons] at hv
    have hvt := hv.take z
    have hvd := hv.drop z
    rw [List.take_left' hcl] at hvt
    rw [List.drop_left' hcl] at hvd
    obtain ⟨pl, g1, g2, g3, g4⟩ := storeC_out hs h1 hvt (fun u hu => hc.flat u (List.mem_of_mem_take hu))
    have htl : (us.take z).length = z := by rw [hvt.length, hcl]
    have hsplit : us.take z ++ us.drop z = us := List.take_append_drop z us
    have hch : Ch sy ρ z l l.length (us.drop z) := ⟨rfl, fun x hx => hc.each x (List.mem_cons_of_mem _ hx), hvd, fun u hu => hc.flat u (List.mem_of_mem_drop hu)⟩
    have hlen : us.length = z + (us.drop z).length := by have := congrArg List.length hsplit; rw [List.length_append, htl] at this; omega
    rcases storeEls_out g3.sat h2 hch with ⟨k1, k2, k3⟩ | ⟨pl', k1, k2, k3, k4⟩
    · subst k2
      refine .inr ⟨pl, g1, ?_, ?_, g4⟩
      · rw [hlen, k3]; simpa [htl] using g2
      · rw [← hsplit, k3, List.append_nil]; exact g3
    · rw [g1] at k1; simp at k1; subst k1
      obtain ⟨row, hr⟩ : ∃ r, s.hv id = some r := by
        simp only [storeC, bi_some, ob_some] at h1
        obtain ⟨_, row, hq, _⟩ := h1
        exact ⟨row.v, hv_some.2 ⟨row, hq, rfl⟩⟩
      obtain ⟨p2, q1, _, _, q2⟩ := hs.sat.rows id row hr
      rw [g1] at q1; simp at q1; subst q1
      obtain ⟨el, hsh⟩ := q2.shape
      have hb := there_back hsh k2
      have e1 : pl.base + Nat.add off z = pl.base + off + (us.take z).length := by rw [htl]; show pl.base + (off + z) = _; omega
      rw [e1] at hb k3
      refine .inr ⟨pl, g1, fun j hj => ?_, ?_, g4.trans k4⟩
      · by_cases hjz : j < z
        · exact g2 j (by rw [htl]; exact hjz)
        · have := hb (j - z) (by omega)
          rw [show pl.base + off + (us.take z).length + (j - z) = pl.base + off + j from by rw [htl]; omega] at this
          exact this
      · rw [← hsplit, setCells_append]
        refine g3.trans k3 ?_
        intro i hi1 hi2
        rw [k4.next, g4.next] at hi2
        omega

/-- a new row joins what is known -/
theorem addRow_out {s : St} {row : Row} {pl : Pl} {w w' : World} (hS : SatS sy ρ s w) (hρ : ρ s.next = none) (h : NewAt sy ρ s.next row pl w w') : Out sy ρ s w (Env.set ρ s.next pl) (addRow s row) w' := by
  obtain ⟨arr, el, lo, hi, m1, m2, m3, m4, m5⟩ := h.mem
  have hty := h.typ arr el (lo, hi) m1
  have hnone : s.heap.get s.next = none := by
    cases hq : s.heap.get s.next with
    | none => rfl
    | some r =>
      obtain ⟨p, k, _⟩ := hS.sat.rows s.next r.v (hv_some.2 ⟨r, hq, rfl⟩)
      rw [hρ] at k; simp at k
  have hsat := hS.sat.add (r := row.v) (pl := pl) hρ h.fam h.sz h.exact h.blk m1 m2 m3 hty m4 m5
  have hget : ∀ i, (addRow s row).heap.get i = if i = s.next then some row else s.heap.get i := fun i => T.get_set _ _ _ _
  refine ⟨⟨Nat.le_succ _, rfl, fun i hi hr => ?_⟩, ⟨?_, h.os, h.tape, h.output, fun b hb _ => ?_, Env.set_mono hρ, fun i q hq hi => ?_⟩, ⟨?_, ?_, Nat.le_succ_of_le hS.fln⟩⟩
  · rw [hget, if_neg (by rcases hr with q | q; omega; exact fun e => by subst e; exact absurd q (Nat.not_succ_le_self _))]; exact hi
  · rw [m1]; simp
  · rw [m1, Array.getElem?_push, if_neg (by omega)]
  · unfold Env.set at hq
    split at hq
    · rename_i e; subst e
      simp at hq; subst hq
      exact ⟨⟨Nat.le_refl _, Nat.lt_succ_self _⟩, .inl (Nat.le_of_eq h.blk.symm)⟩
    · rw [hi] at hq; simp at hq
  · refine hsat.ext (fun i => ?_) (fun _ => rfl)
    unfold St.hv
    rw [hget]
    split <;> rfl
  · intro i r hi q ch hq
    rw [hget] at hi
    split at hi
    · simp at hi; subst hi
      exact h.each ch (List.mem_of_getElem? hq)
    · exact hS.wf i r hi q ch hq

/-- a slice that has grown into a new row -/
theorem grown_new {n z need c : Nat} {cs : List (List AV)} {vs : List Value} {rest : Array Value} {e : TypeId} {w : World} (hρ : ρ n = none) (hc : Ch sy ρ z cs need vs) (hcap : need ≤ c) (hr : rest.size = (c - need) * z) :
    NewAt sy ρ n ⟨0, false, z, cs, Nat.succ e⟩ ⟨w.heap.size, 0, c * z, false, z⟩ w (w.drew.alloc (.cells (vs.toArray ++ rest) e)) ∧
    V sy (Env.set ρ n ⟨w.heap.size, 0, c * z, false, z⟩) (.slc n 0 need need z) (.slice (some ⟨w.heap.size, 0, none⟩) need c) := by
  have hm := Env.set_mono (ρ := ρ) (pl := ⟨w.heap.size, 0, c * z, false, z⟩) hρ
  have hsz : (vs.toArray ++ rest).size = c * z := by
    rw [Array.size_append, hr]
    simp only [List.size_toArray, hc.vlen]
    rw [← Nat.add_mul]; congr 1; omega
  refine ⟨⟨rfl, hc.each, rfl, rfl, rfl, ⟨vs.toArray ++ rest, e, 0, 0, rfl, hsz, fun o _ h => by omega, fun _ o h => by omega, fun j q hj => ?_⟩, rfl, rfl, rfl, fun _ _ _ h => .inr ⟨push_el h, rfl, fun h => by simp at h⟩⟩, ?_⟩
  · rw [cellAt_flat hc.each] at hj
    obtain ⟨v, k1, k2⟩ := hc.vals.get hj
    have hlt := (List.getElem?_eq_some_iff.1 k1).1
    refine ⟨v, ?_, k2.mono hm, hc.flat v (List.mem_of_getElem? k1)⟩
    show (vs.toArray ++ rest)[0 + j]? = some v
    rw [Nat.zero_add, Array.getElem?_append_left (by simpa using hlt)]
    simpa using k1
  · refine ⟨_, c, 0, Env.set_same, ⟨Nat.le_refl _, hcap, fun h => by simp at h, fun _ => ⟨rfl, ?_⟩⟩, fun _ => by simp, rfl⟩
    show 0 + 0 + c * z ≤ c * z
    omega
theorem zeroCells_size (z : Array Value) (n : Nat) : (Builtin.zeroCells z n).size = n * z.size := by simp [Builtin.zeroCells]
theorem elem2_inv {t u : TypeId} {z : Nat × Bool × Nat} (h : elem2 P t u = some z) : ∃ e i zv d, P.underlying t = some (.slice e) ∧ P.info? e = some i ∧ i.zero = some zv ∧ zv.cells.size = z.1 ∧ i.size = z.1 ∧ i.bytes ≤ 65536 ∧ P.underlying u = some d ∧ srcD d = some z.2.1 ∧ z.2.2 = Nat.succ e := by
  simp only [elem2, ob_some, bi_some] at h
  obtain ⟨e, h1, w, h2, h3, zv, h4, zc, h9, n, h5, d, h6, str, h7, h8⟩ := h
  simp at h8; subst h8
  obtain ⟨k0, k8⟩ := sized_inv h5
  obtain ⟨i, k1, k2⟩ := bytes_run h2
  obtain ⟨i', k3, k4⟩ := size_info k0
  obtain ⟨i'', u', k5, k6, k7⟩ := zero_info h4
  rw [k1] at k3 k5
  simp at k3 k5; subst k3; subst k5
  have hz := (conv_V (sy := fun _ => undef) (ρ := fun _ => none) k7).cells h9
  exact ⟨e, i, u', d, elem_und h1, k1, k6, by rw [← k8, ← hz.1.length]; simp, k4, by rw [k2]; simpa using h3, h6, h7, rfl⟩
theorem elem0_inv {ts : Array TypeId} {z : Nat × Bool × Nat} (h : elem0 P ts = some z) : ∃ t u, ts = #[t, u] ∧ elem2 P t u = some z := by
  obtain ⟨l⟩ := ts
  match l, h with
  | [t, u], h => exact ⟨t, u, rfl, h⟩
  | [], h => cases h
  | [_], h => cases h
  | _ :: _ :: _ :: _, h => cases h

/-- what is appended, in the model's words -/
theorem src_slice {s : St} {w : World} {z id off n cap y : Nat} {l : List (List AV)} {v : Value} {tx e' : TypeId} (hS : SatS sy ρ s w) (hk : P.underlying tx = some (.slice e')) (h : elemsN s z id off n = some l) (hv : V sy ρ (.slc id off n cap y) v) :
    ∃ us, Ch sy ρ z l n us ∧ Src P z tx v n us w := by
  obtain ⟨us, c1, c2⟩ := elemsN_at hS h
  obtain ⟨pl, c, o, g1, g2, g3, rfl⟩ := hv
  refine ⟨us, c1, Src.ofSlice w hk _ n c us c1.vlen (fun j u hj => ?_) (fun u hu => (c1.flat u hu).one)⟩
  have hn0 : n ≠ 0 := by
    intro h0
    have := c1.vlen
    rw [h0] at this
    have := (List.getElem?_eq_some_iff.1 hj).1
    omega
  obtain ⟨pl', k1, k2, k3⟩ := c2 hn0
  rw [g1] at k1; simp at k1; subst k1
  have ho := g3 (by have := g2.1; have := g2.2.1; omega)
  subst ho
  rw [addr_add]
  exact k3 j u hj
theorem src_string {n b : Nat} {v : Value} {w : World} {tx : TypeId} (hk : P.underlying tx = some .string) (hv : V sy ρ (.str n b) v) : ∃ us, Ch sy ρ 1 (bytesL n b) n us ∧ Src P 1 tx v n us w := by
  obtain ⟨s, rfl, h1, h2⟩ := hv
  subst h1 h2
  have := Src.ofString (P := P) w hk s
  rw [Lib.size_eq] at this
  exact ⟨byteCells s, bytesL_Ch s.data.toList, this⟩

theorem cutN_sub {hi : Nat} : ∀ {l : List (Nat × Nat)} {n : Nat} {p : Nat × Nat}, p ∈ cutN hi l n → p ∈ l ∧ p.2 ≤ hi
  | [], _, _, h => by cases h
  | q :: l, 0, _, h => by cases h
  | q :: l, n + 1, p, h => by
    have h' : p ∈ bi (Nat.ble q.2 hi) (q :: cutN hi l n) (cutN hi l (n + 1)) := h
    rw [bi_eq] at h'
    split at h'
    · rename_i hq
      rcases List.mem_cons.1 h' with e | e
      · subst e; exact ⟨List.mem_cons_self, by simpa using hq⟩
      · exact ⟨List.mem_cons_of_mem _ (cutN_sub e).1, (cutN_sub e).2⟩
    · exact ⟨List.mem_cons_of_mem _ (cutN_sub h').1, (cutN_sub h').2⟩
/-- what a family's path is behind an append -/
structure Path (F : FV) (id n hi : Nat) (r : VRow) (f : Nat) (l0 : List (Nat × Nat)) : Prop where
  is : (r.fam = 0 ∧ F n = none ∧ f = n ∧ l0 = [(id, hi)]) ∨ (r.fam ≠ 0 ∧ f = r.fam ∧ ∃ l m, F r.fam = some l ∧ l0 = (id, hi) :: cutN hi l m)
  ne : f ≠ 0
/-- a row goes on in a new one, behind its end or elsewhere -/
theorem Sat.share {H : HV} {F : FV} {fl : Nat} {w w' : World} {id n hi off e' f : Nat} {r nr : VRow} {pl pl' : Pl} {l0 : List (Nat × Nat)} (h : Sat sy ρ H F fl w) (hr : H id = some r) (hρ : ρ id = some pl) (hfl : fl ≤ id) (hn : ρ n = none) (hnfl : fl ≤ n)
    (hex : r.exact = false) (hrd : Rdb F id r.fam) (hp : Path F id n hi r f l0) (hhi : ∀ j c, r.cell j = some c → j < hi)
    (nfam : nr.fam = f) (nex : nr.exact = false) (nsz : pl'.sz = nr.sz) (nex' : pl'.exact = false) (nend : ∀ j c, nr.cell j = some c → j < e')
    (hmem : ∀ b, b < w.heap.size → b ≠ pl.blk → w'.heap[b]? = w.heap[b]?) (hshape : w'.shape? pl.blk = w.shape? pl.blk) (hfrz : ∀ o, w'.frozen? ⟨pl.blk, o, none⟩ = w.frozen? ⟨pl.blk, o, none⟩) (hcell : ∀ j, j < pl.base + hi → w'.cell? ⟨pl.blk, j, none⟩ = w.cell? ⟨pl.blk, j, none⟩)
    (hloc : (pl'.blk = pl.blk ∧ pl'.base = pl.base + off) ∨ pl'.blk = w.heap.size)
    (hnew : RowAt sy (Env.set ρ n pl') (fun g => if g = f then some ((n, e') :: if off = 0 then l0 else []) else F g) fl w' n nr pl') :
    Sat sy (Env.set ρ n pl') (fun i => if i = n then some nr else if i = id then some ⟨f, r.exact, r.sz, r.cell, r.ty⟩ else H i) (fun g => if g = f then some ((n, e') :: if off = 0 then l0 else []) else F g) fl w' := by
  have hm := Env.set_mono (ρ := ρ) (pl := pl') hn
  have hne : n ≠ id := fun e => by rw [e, hρ] at hn; simp at hn
  have hno : ∀ i q, H i = some q → i ≠ n := fun i q hi e => by
    obtain ⟨p, k, _⟩ := h.rows i q hi
    rw [e, hn] at k; simp at k
  -- what is on the new path was on the old one
  have hon : ∀ i, i ≠ n → On i ((n, e') :: if off = 0 then l0 else []) → off = 0 ∧ (i = id ∨ (r.fam ≠ 0 ∧ ∃ l e, F r.fam = some l ∧ (i, e) ∈ l ∧ e ≤ hi)) := by
    rintro i hi ⟨e, he⟩
    rcases List.mem_cons.1 he with q | q
    · exact absurd (by simpa using (Prod.ext_iff.1 q).1) hi
    · by_cases h0 : off = 0
      · rw [if_pos h0] at q
        refine ⟨h0, ?_⟩
        rcases hp.is with ⟨k1, k2, k3, k4⟩ | ⟨k1, k2, l, m, k3, k4⟩
        · rw [k4] at q; simp at q; exact .inl q.1
        · rw [k4] at q
          rcases List.mem_cons.1 q with q | q
          · exact .inl (by simpa using (Prod.ext_iff.1 q).1)
          · exact .inr ⟨k1, l, e, k3, (cutN_sub q).1, (cutN_sub q).2⟩
      · rw [if_neg h0] at q; simp at q
  have hlt : ∀ i q p, H i = some q → ρ i = some p → p.blk < w.heap.size := fun i q p hi hp => by
    obtain ⟨p', k, _, _, k2⟩ := h.rows i q hi
    rw [hp] at k; simp at k; subst k
    obtain ⟨el, k3⟩ := k2.shape
    exact lt_of_shape k3
  have hgetρ : ∀ i p, i ≠ n → (Env.set ρ n pl') i = some p → ρ i = some p := fun i p e hp => by unfold Env.set at hp; rwa [if_neg e] at hp
  -- each old row, as it was
  have hget : ∀ i q, i ≠ n → (if i = n then some nr else if i = id then some (⟨f, r.exact, r.sz, r.cell, r.ty⟩ : VRow) else H i) = some q → ∃ q', H i = some q' ∧ q'.exact = q.exact ∧ q'.sz = q.sz ∧ q'.cell = q.cell ∧ q'.ty = q.ty ∧ (i ≠ id → q'.fam = q.fam) ∧ (i = id → q' = r ∧ q.fam = f) := by
    intro i q hi hq
    rw [if_neg hi] at hq
    by_cases e : i = id
    · subst e; simp at hq; subst hq
      exact ⟨r, hr, rfl, rfl, rfl, rfl, fun h => absurd rfl h, fun _ => ⟨rfl, rfl⟩⟩
    · rw [if_neg e] at hq
      exact ⟨q, hq, rfl, rfl, rfl, rfl, fun _ => rfl, fun h => absurd h e⟩
  have hFne : ∀ g, g ≠ f → (fun g => if g = f then some ((n, e') :: if off = 0 then l0 else []) else F g) g = F g := fun g hg => by simp [hg]
  -- rows of the family f are those of r's, or r
  have hfam : ∀ i q, H i = some q → q.fam = f → i ≠ id → r.fam ≠ 0 ∧ q.fam = r.fam := by
    intro i q hi hq hne'
    rcases hp.is with ⟨k1, k2, k3, k4⟩ | ⟨k1, k2, _⟩
    · obtain ⟨p, hp'⟩ := h.fams i q hi (by rw [hq]; exact hp.ne)
      rw [hq, k3, k2] at hp'; simp at hp'
    · exact ⟨k1, by rw [hq, k2]⟩
  refine ⟨fun i q hiq => ?_, fun i j ri rj pi pj hij hi1 hj1 hpi hpj hb => ?_, fun i q hiq hq => ?_, fun i q hiq hq l hl e he j c hc => ?_, fun g l hl i hoi => ?_, fun i q hiq hq => ?_, h.glob.mono hm⟩
  · by_cases ei : i = n
    · subst ei; simp at hiq; subst hiq
      exact ⟨pl', Env.set_same, nsz, by rw [nex, nex'], hnew⟩
    · obtain ⟨q', a1, a2, a3, a4, aT, a5, a6⟩ := hget i q ei hiq
      obtain ⟨pi, b1, b2, b3, b4⟩ := h.rows i q' a1
      refine ⟨pi, hm _ _ b1, by rw [b2, a3], by rw [b3, a2], ?_⟩
      -- may it be read now, it might be read
      have hrd' : Rdb (fun g => if g = f then some ((n, e') :: if off = 0 then l0 else []) else F g) i q.fam → Rdb F i q'.fam ∧ (pi.blk = pl.blk → ∀ j c, q'.cell j = some c → pi.base + j < pl.base + hi) := by
        intro hq
        by_cases eid : i = id
        · subst eid
          obtain ⟨c1, c2⟩ := a6 rfl
          subst c1
          rw [hρ] at b1; simp at b1; subst b1
          exact ⟨hrd, fun _ j c hc => by have := hhi j c hc; omega⟩
        · have hf5 := a5 eid
          rcases hq with h0 | ⟨l, h1, h2⟩
          · refine ⟨.inl (by rw [hf5]; exact h0), fun hb => ?_⟩
            obtain ⟨_, _, _, s4, _⟩ := (h.sep i id q' r pi pl eid a1 hr b1 hρ hb).resolve_left fun q => absurd hfl (Nat.not_le_of_lt q.2.1)
            exact absurd (by rw [hf5]; exact h0) s4
          · by_cases eg : q.fam = f
            · simp only [eg, if_true] at h1
              simp at h1; subst h1
              obtain ⟨d1, d2⟩ := hon i ei h2
              obtain ⟨d3, d4⟩ := hfam i q' a1 (by rw [hf5, eg]) eid
              rcases d2 with d5 | ⟨_, l, e, d6, d7, d8⟩
              · exact absurd d5 eid
              · refine ⟨.inr ⟨l, by rw [d4]; exact d6, e, d7⟩, fun hb j c hc => ?_⟩
                obtain ⟨_, _, s3, s4, s5⟩ := (h.sep i id q' r pi pl eid a1 hr b1 hρ hb).resolve_left fun q => absurd hfl (Nat.not_le_of_lt q.2.1)
                have hidon : On id l := by
                  rcases hrd with h0 | ⟨l', h3, h4⟩
                  · exact absurd h0 d3
                  · rw [d6] at h3; simp at h3; rw [h3]; exact h4
                have hbase := s5 l (by rw [s3]; exact d6) ⟨e, d7⟩ hidon
                have := h.ends i q' a1 s4 l (by rw [s3]; exact d6) e d7 j c hc
                omega
            · rw [hFne _ eg] at h1
              refine ⟨.inr ⟨l, by rw [hf5]; exact h1, h2⟩, fun hb => ?_⟩
              obtain ⟨_, _, s3, s4, _⟩ := (h.sep i id q' r pi pl eid a1 hr b1 hρ hb).resolve_left fun q => absurd hfl (Nat.not_le_of_lt q.2.1)
              exfalso
              rcases hp.is with ⟨k1, _⟩ | ⟨_, k2, _⟩
              · exact s4 (s3.trans k1)
              · exact eg (by rw [← hf5, s3, k2])
      by_cases hb : pi.blk = pl.blk
      · refine ⟨by rw [hb, hshape, ← hb]; exact b4.shape, fun k hq o ho => ?_, fun k o => ?_, fun j c hc hq => ?_, fun x hx => by rw [← aT, ← a2, ← a3]; exact b4.typ x (by rw [hb, hshape, ← hb] at hx; exact hx)⟩
        · rw [hb, hfrz, ← hb]; exact b4.free k (hrd' hq).1 o ho
        · rw [hb, hfrz, ← hb]; exact b4.plain (by rw [a2]; exact k) o
        · obtain ⟨m1, m2⟩ := hrd' hq
          rw [← a4] at hc
          obtain ⟨v, v1, v2, v3⟩ := b4.cells j c hc m1
          refine ⟨v, ?_, v2.mono hm, v3⟩
          rw [hb, hcell _ (m2 hb j c hc), ← hb]; exact v1
      · obtain ⟨g1, g2, g3⟩ := same_block (hmem pi.blk (hlt i q' pi a1 b1) hb)
        refine ⟨by rw [g1]; exact b4.shape, fun k hq o ho => by rw [g3]; exact b4.free k (hrd' hq).1 o ho, fun k o => by rw [g3]; exact b4.plain (by rw [a2]; exact k) o, fun j c hc hq => ?_, fun x hx => by rw [← aT, ← a2, ← a3]; exact b4.typ x (by rw [← g1]; exact hx)⟩
        obtain ⟨m1, _⟩ := hrd' hq
        rw [← a4] at hc
        obtain ⟨v, v1, v2, v3⟩ := b4.cells j c hc m1
        exact ⟨v, by rw [g2]; exact v1, v2.mono hm, v3⟩
  · -- no two rows of one block, but on one path
    by_cases ei : i = n <;> by_cases ej : j = n
    · exact absurd (ei.trans ej.symm) hij
    · subst ei; simp at hi1; subst hi1
      rw [Env.set_same] at hpi; simp at hpi; subst hpi
      obtain ⟨q', a1, a2, a3, a4, aT, a5, a6⟩ := hget j rj ej hj1
      have hpj' := hgetρ j pj ej hpj
      rcases hloc with ⟨c1, c2⟩ | c1
      · have hbj : pj.blk = pl.blk := by rw [← hb, c1]
        by_cases eid : j = id
        · subst eid
          obtain ⟨d1, d2⟩ := a6 rfl
          rw [hρ] at hpj'; simp at hpj'; subst hpj'
          refine .inr ⟨hnfl, hfl, by rw [nfam, d2], by rw [nfam]; exact hp.ne, fun l hl _ hoj => ?_⟩
          rw [nfam] at hl; simp at hl; subst hl
          obtain ⟨d3, _⟩ := hon j ej hoj
          rw [c2, d3]; rfl
        · obtain ⟨s1, s2, s3, s4, s5⟩ := (h.sep j id q' r pj pl eid a1 hr hpj' hρ hbj).resolve_left fun q => absurd hfl (Nat.not_le_of_lt q.2.1)
          rcases hp.is with ⟨k1, _⟩ | ⟨k1, k2, _⟩
          · exact absurd (s3.trans k1) s4
          · refine .inr ⟨hnfl, s1, by rw [nfam, ← a5 eid, s3, k2], by rw [nfam]; exact hp.ne, fun l hl _ hoj => ?_⟩
            rw [nfam] at hl; simp at hl; subst hl
            obtain ⟨d3, d4⟩ := hon j ej hoj
            rcases d4 with d5 | ⟨_, l, e, d6, d7, _⟩
            · exact absurd d5 eid
            · have hidon : On id l := by
                rcases hrd with h0 | ⟨l', h3, h4⟩
                · exact absurd h0 k1
                · rw [d6] at h3; simp at h3; rw [h3]; exact h4
              have := s5 l (by rw [s3]; exact d6) ⟨e, d7⟩ hidon
              rw [c2, d3, this]; rfl
      · have := hlt j q' pj a1 hpj'
        rw [← hb, c1] at this; omega
    · subst ej; simp at hj1; subst hj1
      rw [Env.set_same] at hpj; simp at hpj; subst hpj
      obtain ⟨q', a1, a2, a3, a4, aT, a5, a6⟩ := hget i ri ei hi1
      have hpi' := hgetρ i pi ei hpi
      rcases hloc with ⟨c1, c2⟩ | c1
      · have hbi : pi.blk = pl.blk := by rw [hb, c1]
        by_cases eid : i = id
        · subst eid
          obtain ⟨d1, d2⟩ := a6 rfl
          rw [hρ] at hpi'; simp at hpi'; subst hpi'
          refine .inr ⟨hfl, hnfl, by rw [nfam, d2], by rw [d2]; exact hp.ne, fun l hl hoi _ => ?_⟩
          rw [d2] at hl; simp at hl; subst hl
          obtain ⟨d3, _⟩ := hon i ei hoi
          rw [c2, d3]; rfl
        · obtain ⟨s1, s2, s3, s4, s5⟩ := (h.sep i id q' r pi pl eid a1 hr hpi' hρ hbi).resolve_left fun q => absurd hfl (Nat.not_le_of_lt q.2.1)
          rcases hp.is with ⟨k1, _⟩ | ⟨k1, k2, _⟩
          · exact absurd (s3.trans k1) s4
          · refine .inr ⟨s1, hnfl, by rw [nfam, ← a5 eid, s3, k2], by rw [← a5 eid]; exact s4, fun l hl hoi _ => ?_⟩
            rw [← a5 eid, s3, ← k2] at hl; simp at hl; subst hl
            obtain ⟨d3, d4⟩ := hon i ei hoi
            rcases d4 with d5 | ⟨_, l, e, d6, d7, _⟩
            · exact absurd d5 eid
            · have hidon : On id l := by
                rcases hrd with h0 | ⟨l', h3, h4⟩
                · exact absurd h0 k1
                · rw [d6] at h3; simp at h3; rw [h3]; exact h4
              have := s5 l (by rw [s3]; exact d6) ⟨e, d7⟩ hidon
              rw [c2, d3, this]; rfl
      · have := hlt i q' pi a1 hpi'
        rw [hb, c1] at this; omega
    · obtain ⟨q1, a1, a2, a3, a4, _, a5, a6⟩ := hget i ri ei hi1
      obtain ⟨q2, b1, b2, b3, b4, _, b5, b6⟩ := hget j rj ej hj1
      have hpi' := hgetρ i pi ei hpi
      have hpj' := hgetρ j pj ej hpj
      rcases h.sep i j q1 q2 pi pj hij a1 b1 hpi' hpj' hb with q | ⟨s1, s2, s3, s4, s5⟩
      · exact .inl q
      -- the fam of r, if it is one of the two, was not 0
      have hfi : q1.fam = ri.fam := by
        by_cases e : i = id
        · obtain ⟨c1, c2⟩ := a6 e
          subst c1
          rcases hp.is with ⟨k1, _⟩ | ⟨_, k2, _⟩
          · exact absurd k1 s4
          · rw [c2, k2]
        · exact a5 e
      have hfj : q2.fam = rj.fam := by
        by_cases e : j = id
        · obtain ⟨c1, c2⟩ := b6 e
          subst c1
          rcases hp.is with ⟨k1, _⟩ | ⟨_, k2, _⟩
          · exact absurd (s3.trans k1) s4
          · rw [c2, k2]
        · exact b5 e
      refine .inr ⟨s1, s2, by rw [← hfi, ← hfj]; exact s3, by rw [← hfi]; exact s4, fun l hl hoi hoj => ?_⟩
      by_cases eg : ri.fam = f
      · simp only [eg, if_true] at hl
        simp at hl; subst hl
        have hr0 : r.fam ≠ 0 ∧ q1.fam = r.fam := by
          by_cases e : i = id
          · obtain ⟨c1, _⟩ := a6 e
            subst c1; exact ⟨s4, rfl⟩
          · exact hfam i q1 a1 (by rw [hfi, eg]) e
        obtain ⟨lr, hlr⟩ : ∃ l, F r.fam = some l ∧ On id l := by
          rcases hrd with h0 | h1
          · exact absurd h0 hr0.1
          · exact h1
        have onl : ∀ k, k ≠ n → On k ((n, e') :: if off = 0 then l0 else []) → On k lr := by
          intro k hk hok
          rcases (hon k hk hok).2 with d | ⟨_, l, e, d6, d7, _⟩
          · rw [d]; exact hlr.2
          · rw [hlr.1] at d6; simp at d6; rw [d6]; exact ⟨e, d7⟩
        exact s5 lr (by rw [hr0.2]; exact hlr.1) (onl i ei hoi) (onl j ej hoj)
      · replace hl := (hFne _ eg).symm.trans hl
        exact s5 l (by rw [hfi]; exact hl) hoi hoj
  · by_cases ei : i = n
    · subst ei; simp at hiq; subst hiq
      exact ⟨_, if_pos nfam⟩
    · obtain ⟨q', a1, a2, a3, a4, aT, a5, a6⟩ := hget i q ei hiq
      by_cases eg : q.fam = f
      · exact ⟨_, if_pos eg⟩
      · by_cases e : i = id
        · exact absurd (a6 e).2 eg
        · obtain ⟨p, hp'⟩ := h.fams i q' a1 (by rw [a5 e]; exact hq)
          exact ⟨p, (hFne _ eg).trans (by rw [← a5 e]; exact hp')⟩
  · by_cases ei : i = n
    · subst ei; simp at hiq; subst hiq
      rw [nfam] at hl; simp at hl; subst hl
      rcases List.mem_cons.1 he with q' | q'
      · have : e = e' := by simpa using (Prod.ext_iff.1 q').2
        subst this
        exact nend j c hc
      · exfalso
        by_cases h0 : off = 0
        · rw [if_pos h0] at q'
          rcases hp.is with ⟨k1, k2, k3, k4⟩ | ⟨k1, k2, l, m, k3, k4⟩
          · rw [k4] at q'; simp at q'; exact hne q'.1
          · rw [k4] at q'
            rcases List.mem_cons.1 q' with q2 | q2
            · exact hne (by simpa using (Prod.ext_iff.1 q2).1)
            · obtain ⟨x, hx⟩ := h.pmem _ l k3 i ⟨e, (cutN_sub q2).1⟩
              rw [hn] at hx; simp at hx
        · rw [if_neg h0] at q'; simp at q'
    · obtain ⟨q', a1, a2, a3, a4, aT, a5, a6⟩ := hget i q ei hiq
      rw [← a4] at hc
      by_cases eg : q.fam = f
      · rw [eg] at hl; simp at hl; subst hl
        rcases List.mem_cons.1 he with q2 | q2
        · exact absurd (by simpa using (Prod.ext_iff.1 q2).1) ei
        · by_cases h0 : off = 0
          · rw [if_pos h0] at q2
            have hidc : (i, e) = (id, hi) → j < e := by
              intro h3
              have e1 : i = id := (Prod.ext_iff.1 h3).1
              have e2 : e = hi := (Prod.ext_iff.1 h3).2
              obtain ⟨c1, _⟩ := a6 e1
              subst c1
              rw [e2]; exact hhi j c hc
            rcases hp.is with ⟨k1, k2, k3, k4⟩ | ⟨k1, k2, l, m, k3, k4⟩
            · rw [k4] at q2; simp at q2
              exact hidc (by rw [q2.1, q2.2])
            · rw [k4] at q2
              rcases List.mem_cons.1 q2 with q3 | q3
              · exact hidc q3
              · have hq' : q'.fam = r.fam := by
                  by_cases e1 : i = id
                  · rw [(a6 e1).1]
                  · rw [a5 e1, eg, k2]
                exact h.ends i q' a1 (by rw [hq']; exact k1) l (by rw [hq']; exact k3) e (cutN_sub q3).1 j c hc
          · rw [if_neg h0] at q2; simp at q2
      · replace hl := (hFne _ eg).symm.trans hl
        by_cases e1 : i = id
        · exact absurd (a6 e1).2 eg
        · exact h.ends i q' a1 (by rw [a5 e1]; exact hq) l (by rw [a5 e1]; exact hl) e he j c hc
  · by_cases ei : i = n
    · subst ei; exact ⟨_, Env.set_same⟩
    · by_cases eg : g = f
      · subst eg; simp at hl; subst hl
        rcases (hon i ei hoi).2 with d | ⟨_, l, e, d6, d7, _⟩
        · exact ⟨pl, hm _ _ (by rw [d]; exact hρ)⟩
        · obtain ⟨x, hx⟩ := h.pmem _ l d6 i ⟨e, d7⟩
          exact ⟨x, hm _ _ hx⟩
      · replace hl := (hFne _ eg).symm.trans hl
        obtain ⟨x, hx⟩ := h.pmem g l hl i hoi
        exact ⟨x, hm _ _ hx⟩
  · by_cases ei : i = n
    · subst ei; simp at hiq; subst hiq; rw [nex] at hq; simp at hq
    · obtain ⟨q', a1, a2, a3, a4, aT, a5, a6⟩ := hget i q ei hiq
      by_cases e1 : i = id
      · obtain ⟨c1, _⟩ := a6 e1
        subst c1; rw [← a2, hex] at hq; simp at hq
      · rw [← a5 e1]; exact h.exfam i q' a1 (by rw [a2]; exact hq)
end Go.Ex

namespace Go.Ex
variable {sy : Nat → Value} {ρ : Env} {P : Program}

/-- an append that has no room: the new row, and the world -/
theorem grow_ok {w : World} {z n len c : Nat} {cs : List (List AV)} {olds us : List Value} {ao : Option Addr} {t u ty : TypeId} {str : Bool} {y0 : Nat} {x : Value} {id0 : Nat} (hz : elem2 P t u = some (z, str, y0)) (hs : Src P z u x n us w)
    (hch : Ch sy ρ z cs (len + n) (olds ++ us)) (hold : (Builtin.firstCells z len (.slice ao len c)).run P w.drew = .ok olds.toArray w.drew) (hlt : c < len + n) (hle : len + n ≤ 1000000) (hρ : ρ id0 = none) :
    ∃ w' q pl, (Builtin.append_ #[t, u] ty #[.slice ao len c, x]).run P w = .ok q w' ∧ NewAt sy ρ id0 ⟨0, false, z, cs, y0⟩ pl w w' ∧ V sy (Env.set ρ id0 pl) (.slc id0 0 (len + n) (len + n) z) q := by
  obtain ⟨e, i, zv, d, k1, k2, k3, k4, k5, k6, k7, k8, k9⟩ := elem2_inv hz
  simp only at k4 k5 k8 k9
  have hs' : Src P i.size u x n us w := by rw [k5]; exact hs
  have hold' : (Builtin.firstCells i.size len (.slice ao len c)).run P w.drew = .ok olds.toArray w.drew := by rw [k5]; exact hold
  have hnc := nextslicecap_le hlt
  have hfit : Builtin.nextslicecap (len + n) c * i.bytes ≤ 281474976710656 := by
    have : Builtin.nextslicecap (len + n) c * i.bytes ≤ 2000000 * 65536 := Nat.mul_le_mul (by omega) k6
    omega
  have hrun := run_append_grow_src (P := P) w t u ty e i zv k1 k2 k3 ao len c olds hold' x n us hs' hlt (by omega) hfit
  have hg : len + n ≤ grownCap w (len + n) c e := by unfold grownCap; simp [Question.cut]
  obtain ⟨m1, m2⟩ := grown_new (w := w) (e := e) (rest := Builtin.zeroCells zv.cells (grownCap w (len + n) c e - (len + n))) hρ hch hg (by rw [zeroCells_size, k4])
  subst k9
  exact ⟨_, _, _, hrun, m1, m2⟩
theorem room_ok {w : World} {z n len c b o : Nat} {us : List Value} {t u ty : TypeId} {str : Bool} {y0 : Nat} {x : Value} (hz : elem2 P t u = some (z, str, y0)) (hs : Src P z u x n us w) (hroom : len + n ≤ c) (hin : w.there b (o + len * z) us.length) :
    (Builtin.append_ #[t, u] ty #[.slice (some ⟨b, o, none⟩) len c, x]).run P w = .ok (.slice (some ⟨b, o, none⟩) (len + n) c) (w.setCells b (o + len * z) us) := by
  obtain ⟨e, i, zv, d, k1, k2, k3, k4, k5, k6, k7, k8, k9⟩ := elem2_inv hz
  simp only at k4 k5 k8 k9
  have hs' : Src P i.size u x n us w := by rw [k5]; exact hs
  have := run_append_room_src (P := P) w t u ty e i k1 k2 b o len c x n us hs' hroom (fun j hj => by rw [k5]; exact (hin j hj).1) (fun j hj => by rw [k5]; exact (hin j hj).2)
  rw [k5] at this
  exact this
theorem nilnil_ok {w : World} {z : Nat} {us : List Value} {t u ty : TypeId} {str : Bool} {y0 : Nat} {x : Value} (hz : elem2 P t u = some (z, str, y0)) (hs : Src P z u x 0 us w) :
    (Builtin.append_ #[t, u] ty #[.slice none 0 0, x]).run P w = .ok (.slice none 0 0) w := by
  obtain ⟨e, i, zv, d, k1, k2, k3, k4, k5, k6, k7, k8, k9⟩ := elem2_inv hz
  simp only at k4 k5 k8 k9
  have hs' : Src P i.size u x 0 us w := by rw [k5]; exact hs
  rcases hs'.kind with ⟨e', hk⟩ | hk <;> simp [Builtin.append_, run_underlying k1, run_underlying hk, sizeOf, typeInfo, k2, hs'.len, hs'.cells]
theorem firstCells_at {w : World} {z len c : Nat} {a : Addr} {olds : List Value} (hl : olds.length = len * z) (h : ∀ j u, olds[j]? = some u → w.cell? (a.add j) = some u) :
    (Builtin.firstCells z len (.slice (some a) len c)).run P w.drew = .ok olds.toArray w.drew :=
  run_firstCells_some w.drew z len a len c olds hl (by simpa using h)
/-- a slice's elements, at its address -/
theorem slc_cells {s : St} {w : World} {z id off len cap y c o : Nat} {l : List (List AV)} {pl : Pl} (hS : SatS sy ρ s w) (h : elemsN s z id off len = some l) (hp : ρ id = some pl) (hok : slcOk pl off len cap y c) (ho : c ≠ 0 → o = pl.base + off) :
    ∃ olds, Ch sy ρ z l len olds ∧ ∀ (j : Nat) u, olds[j]? = some u → w.cell? ((⟨pl.blk, o, none⟩ : Addr).add j) = some u := by
  obtain ⟨us, c1, c2⟩ := elemsN_at hS h
  refine ⟨us, c1, fun j u hj => ?_⟩
  have hn0 : len ≠ 0 := by
    intro h0
    have := c1.vlen
    rw [h0] at this
    have := (List.getElem?_eq_some_iff.1 hj).1
    omega
  obtain ⟨pl', k1, k2, k3⟩ := c2 hn0
  rw [hp] at k1; simp at k1; subst k1
  have ho' := ho (by have := hok.1; have := hok.2.1; omega)
  subst ho'
  rw [addr_add]
  exact k3 j u hj
theorem famOf_path {s : St} {row : Row} {id hi : Nat} {p : Nat × List (Nat × Nat)} (h : famOf s row.fam id hi = some p) (hn : s.next ≠ 0) : Path s.fams.get id s.next hi row.v p.1 p.2 := by
  unfold famOf at h
  split at h
  · rename_i hf
    split at h
    · rename_i hq
      simp at h; subst h
      exact ⟨.inl ⟨hf, hq, rfl, rfl⟩, hn⟩
    · simp at h
  · rename_i hf
    simp only [ob_some] at h
    obtain ⟨l, h1, h2⟩ := h
    simp at h2; subst h2
    have hf' : row.fam ≠ 0 := hf
    exact ⟨.inr ⟨hf', rfl, l, 16, h1, rfl⟩, hf'⟩
theorem NewAt.rowAt {n : Nat} {row : Row} {pl : Pl} {w w' : World} (h : NewAt sy ρ n row pl w w') (F : FV) (fl : Nat) (fam y : Nat) (hy : y = 0 ∨ y = row.ty) : RowAt sy (Env.set ρ n pl) F fl w' n ⟨fam, row.exact, row.sz, cellAt row, y⟩ pl := by
  obtain ⟨arr, el, lo, hi, m1, m2, m3, m4, m5⟩ := h.mem
  have hnew : w'.heap[pl.blk]? = some (.cells arr el (lo, hi)) := by rw [m1, h.blk]; simp
  have hty := h.typ arr el (lo, hi) m1
  refine ⟨⟨el, ?_⟩, fun _ _ o ho => ?_, fun q o => ?_, fun j c hc _ => ?_, fun x hx => ?_⟩
  · unfold World.shape?; rw [hnew]; show some (el, arr.size) = _; rw [m2]
  · unfold World.frozen?; rw [hnew]
    show (decide (lo ≤ o) && decide (o < hi)) = false
    have := m3 o ho
    simp only [Bool.and_eq_false_iff, decide_eq_false_iff_not]
    by_cases h1 : lo ≤ o
    · exact .inr (fun h2 => this ⟨h1, h2⟩)
    · exact .inl h1
  · unfold World.frozen?; rw [hnew]
    show (decide (lo ≤ o) && decide (o < hi)) = false
    have := m4 q o
    simp only [Bool.and_eq_false_iff, decide_eq_false_iff_not]
    by_cases h1 : lo ≤ o
    · exact .inr (fun h2 => this ⟨h1, h2⟩)
    · exact .inl h1
  · obtain ⟨v, k1, k2⟩ := m5 j c hc
    exact ⟨v, by unfold World.cell?; rw [hnew]; exact k1, k2⟩
  · unfold World.shape? at hx; rw [hnew] at hx; simp at hx; subst hx
    rcases hy with q | q
    · exact .inl q
    · rcases hty with q' | ⟨q', q2⟩
      · exact .inl (q.trans q')
      · exact .inr ⟨q.trans q', q2⟩
theorem cellAt_lt {row : Row} {j : Nat} {c : AV} (hw : ∀ (q : Nat) ch, row.cs[q]? = some ch → ch.length = row.sz) (h : cellAt row j = some c) : j < row.cs.length * row.sz := by
  unfold cellAt at h
  cases hq : row.cs[j / row.sz]? with
  | none => rw [hq] at h; simp at h
  | some ch =>
    rw [hq] at h
    have h1 := (List.getElem?_eq_some_iff.1 hq).1
    have h2 : j % row.sz < ch.length := (List.getElem?_eq_some_iff.1 (show ch[j % row.sz]? = some c from h)).1
    rw [hw _ _ hq] at h2
    have h3 := Nat.div_add_mod j row.sz
    have h4 : (j / row.sz + 1) * row.sz ≤ row.cs.length * row.sz := Nat.mul_le_mul_right _ h1
    rw [Nat.succ_mul, Nat.mul_comm] at h4
    omega
/-- the book and the memory behind an append whose place is not known -/
theorem share_out {s : St} {w w' : World} {id off len z need : Nat} {row : Row} {cs : List (List AV)} {p : Nat × List (Nat × Nat)} {pl pl2 : Pl} (hS : SatS sy ρ s w) (h2 : s.heap.get id = some row) (hρ : ρ id = some pl) (hfl : s.floor ≤ id) (hn : ρ s.next = none) (hnf : s.floor ≤ s.next)
    (hex : row.exact = false) (hrd : Rdb s.fams.get id row.fam) (_hsz : row.sz = z) (hhi : off + len * z = row.cs.length * row.sz) (h6 : famOf s row.fam id (off + len * z) = some p) (hcl : cs.length = need) (hce : ∀ ch ∈ cs, ch.length = z)
    (nsz : pl2.sz = z) (nex : pl2.exact = false) (hmem : ∀ b, b < w.heap.size → b ≠ pl.blk → w'.heap[b]? = w.heap[b]?) (hshape : w'.shape? pl.blk = w.shape? pl.blk) (hfrz : ∀ o, w'.frozen? ⟨pl.blk, o, none⟩ = w.frozen? ⟨pl.blk, o, none⟩)
    (hcell : ∀ j, j < pl.base + (off + len * z) → w'.cell? ⟨pl.blk, j, none⟩ = w.cell? ⟨pl.blk, j, none⟩) (hloc : (pl2.blk = pl.blk ∧ pl2.base = pl.base + off) ∨ pl2.blk = w.heap.size)
    (hnew : ∀ F, RowAt sy (Env.set ρ s.next pl2) F s.floor w' s.next ⟨p.1, false, z, cellAt ⟨p.1, false, z, cs, bi (Nat.beq off 0) row.ty 0⟩, bi (Nat.beq off 0) row.ty 0⟩ pl2) (hsize : w.heap.size ≤ w'.heap.size) (hos : w'.os = w.os) (htape : w'.tape = w.tape) (hout : w'.output = w.output) :
    Out sy ρ s w (Env.set ρ s.next pl2) ⟨(s.heap.set id ⟨p.1, row.exact, row.sz, row.cs, row.ty⟩).set s.next ⟨p.1, false, z, cs, bi (Nat.beq off 0) row.ty 0⟩, s.fams.set p.1 ((s.next, Nat.mul need z) :: bi (Nat.beq off 0) p.2 []), Nat.succ s.next, s.floor⟩ w' := by
  have hn0 : s.next ≠ 0 := by
    intro h0
    obtain ⟨q, hq, _⟩ := hS.sat.glob 0 (by omega)
    rw [h0, hq] at hn; simp at hn
  have hne : s.next ≠ id := fun e => by rw [e, hρ] at hn; simp at hn
  have hpath := famOf_path h6 hn0
  have hwrow := hS.wf id row h2
  have hsh := hS.sat.share (r := row.v) (nr := ⟨p.1, false, z, cellAt ⟨p.1, false, z, cs, bi (Nat.beq off 0) row.ty 0⟩, bi (Nat.beq off 0) row.ty 0⟩) (pl' := pl2) (off := off) (e' := Nat.mul need z) (w' := w') (hv_some.2 ⟨row, h2, rfl⟩) hρ hfl hn hnf hex hrd hpath
    (fun j c hc => by rw [hhi]; exact cellAt_lt hwrow hc) rfl rfl nsz nex (fun j c hc => by
      have hc' : cellAt ⟨p.1, false, z, cs, bi (Nat.beq off 0) row.ty 0⟩ j = some c := hc
      have := cellAt_lt (row := ⟨p.1, false, z, cs, bi (Nat.beq off 0) row.ty 0⟩) (fun q ch hq => hce ch (List.mem_of_getElem? hq)) hc'
      show j < need * z
      rw [← hcl]; exact this) hmem hshape hfrz hcell hloc (hnew _)
  have hnone : s.heap.get s.next = none := by
    cases hq : s.heap.get s.next with
    | none => rfl
    | some r =>
      obtain ⟨p', k, _⟩ := hS.sat.rows s.next r.v (hv_some.2 ⟨r, hq, rfl⟩)
      rw [hn] at k; simp at k
  refine ⟨⟨Nat.le_succ _, rfl, fun i hi hr => ?_⟩, ⟨hsize, hos, htape, hout, fun b hb ho => hmem b hb (fun e => ho ⟨id, row, pl, hfl, h2, hρ, e.symm⟩), Env.set_mono hn, fun i q hq hi => ?_⟩, ⟨?_, ?_, Nat.le_succ_of_le hS.fln⟩⟩
  · simp only [T.get_set]
    rw [if_neg (by rcases hr with q | q; omega; exact fun e => by subst e; exact absurd q (Nat.not_succ_le_self _)), if_neg (by intro e; subst e; rw [h2] at hi; simp at hi)]
    exact hi
  · unfold Env.set at hq
    split at hq
    · rename_i e; subst e
      simp at hq; subst hq
      refine ⟨⟨Nat.le_refl _, Nat.lt_succ_self _⟩, ?_⟩
      rcases hloc with ⟨c1, _⟩ | c1
      · exact .inr ⟨id, row, pl, hfl, h2, hρ, c1.symm⟩
      · exact .inl (Nat.le_of_eq c1.symm)
    · rw [hi] at hq; simp at hq
  · refine hsh.ext (fun i => ?_) (fun g => ?_)
    · unfold St.hv
      simp only [T.get_set]
      split
      · rfl
      · split <;> rfl
    · simp only [T.get_set]
      split
      · rename_i e
        rw [bi_eq]
        by_cases h0 : off = 0
        · rw [if_pos h0, if_pos (by simpa using h0)]
        · rw [if_neg h0, if_neg (by simpa using h0)]
      · rfl
  · intro i r hi q ch hq
    simp only [T.get_set] at hi
    split at hi
    · simp at hi; subst hi
      exact hce ch (List.mem_of_getElem? hq)
    · split at hi
      · simp at hi; subst hi
        exact hwrow q ch hq
      · exact hS.wf i r hi q ch hq
/-- an append, whatever is appended -/
theorem appendS_ok {s s' : St} {w : World} {z n : Nat} {base r : AV} {new : List (List AV)} {v x : Value} {us : List Value} {t u ty : TypeId} {str : Bool} {y0 : Nat} (hS : SatS sy ρ s w) (hz : elem2 P t u = some (z, str, y0)) (hc : Ch sy ρ z new n us) (hs : Src P z u x n us w)
    (hb : V sy ρ base v) (h : appendS s z y0 base new n = some (r, s')) (hfr : Fresh ρ s.next s'.next) :
    ∃ ρ' w' q, (Builtin.append_ #[t, u] ty #[v, x]).run P w = .ok q w' ∧ Out sy ρ s w ρ' s' w' ∧ V sy ρ' r q := by
  unfold appendS at h
  split at h
  · -- of nil
    rw [show v = _ from hb]
    split at h
    · simp at h
      obtain ⟨rfl, rfl⟩ := h
      exact ⟨ρ, w, .slice none 0 0, nilnil_ok hz hs, .refl hS, rfl⟩
    · rename_i hn0
      rw [bi_some] at h
      obtain ⟨h1, h2⟩ := h
      simp at h1 h2
      obtain ⟨rfl, rfl⟩ := h2
      have hρ : ρ s.next = none := hfr _ (Nat.le_refl _) (Nat.lt_succ_self _)
      have hn0' : n ≠ 0 := hn0
      obtain ⟨w', q, pl, k1, k2, k3⟩ := grow_ok (ty := ty) (ao := none) (len := 0) (c := 0) (olds := []) hz hs (by simpa using hc) (by simp [Builtin.firstCells]) (by omega) (by omega) hρ
      exact ⟨_, w', q, k1, addRow_out hS hρ k2, by simpa using k3⟩
  · rename_i id off len cap yq
    obtain ⟨pl, c, o, e1, hok, ho, rfl⟩ := hb
    rw [bi_eq] at h
    split at h
    · -- room, for sure
      rename_i hroom
      simp only [ob_some] at h
      obtain ⟨s1, h1, h2⟩ := h
      simp at h2
      obtain ⟨rfl, rfl⟩ := h2
      have hroom' : len + n ≤ cap := by simpa using hroom
      have hrc : len + n ≤ c := Nat.le_trans hroom' hok.2.1
      have hV : ∀ o', (c ≠ 0 → o' = pl.base + off) → V sy ρ (.slc id off (len + n) cap yq) (.slice (some ⟨pl.blk, o', none⟩) (len + n) c) := fun o' ho' => ⟨pl, c, o', e1, ⟨hroom', hok.2.1, hok.2.2.1, hok.2.2.2⟩, ho', rfl⟩
      rcases storeEls_out hS h1 hc with ⟨k1, k2, k3⟩ | ⟨pl', k1, k2, k3, k4⟩
      · subst k1 k2 k3
        have hn : n = 0 := hc.len.symm
        exact ⟨ρ, _, _, room_ok hz hs hrc (fun j hj => by simp at hj), .refl hS, hV o ho⟩
      · rw [e1] at k1; simp at k1; subst k1
        by_cases hc0 : c = 0
        · have hn : n = 0 := by omega
          have hus : us = [] := List.eq_nil_of_length_eq_zero (by rw [hc.vlen, hn]; simp)
          subst hus
          exact ⟨ρ, _, _, room_ok hz hs hrc (fun j hj => by simp at hj), k3, hV o ho⟩
        · have ho' := ho hc0
          subst ho'
          have e2 : pl.base + Nat.add off (Nat.mul len z) = pl.base + off + len * z := by show pl.base + (off + len * z) = _; omega
          rw [e2] at k2 k3
          exact ⟨ρ, _, _, room_ok hz hs hrc k2, k3, hV _ ho⟩
    · -- anew, or not known
      rename_i hroom
      have hroom' : cap < len + n := by simpa using hroom
      simp only [appendN, ob_some, bi_some] at h
      obtain ⟨old, h1, row, h2, h3, h4⟩ := h
      have h3' : len + n ≤ 1000000 := by simpa using h3
      obtain ⟨olds, c1, c2⟩ := slc_cells hS h1 e1 hok ho
      have hch : Ch sy ρ z (old ++ new) (len + n) (olds ++ us) := c1.app hc
      have hold := firstCells_at (P := P) (c := c) c1.vlen c2
      obtain ⟨pl', g1, g2, g3, g4⟩ := hS.sat.rows id row.v (hv_some.2 ⟨row, h2, rfl⟩)
      rw [e1] at g1; simp at g1; subst g1
      rw [bi_eq] at h4
      split at h4
      · -- the row is all that there is
        rename_i hex
        simp at h4
        obtain ⟨rfl, rfl⟩ := h4
        have hcc : c = cap := hok.2.2.1 (by rw [g3]; exact hex)
        have hρ : ρ s.next = none := hfr _ (Nat.le_refl _) (Nat.lt_succ_self _)
        rw [app_eq] at *
        obtain ⟨w', q, pl2, k1, k2, k3⟩ := grow_ok (ty := ty) hz hs hch hold (by omega) h3' hρ
        exact ⟨_, w', q, k1, addRow_out hS hρ k2, k3⟩
      · rename_i hex
        have hex' : row.exact = false := by simpa using hex
        simp only [appendU, bi_some, ob_some] at h4
        obtain ⟨h5, p, h6, h7⟩ := h4
        simp at h5 h7
        obtain ⟨hyy, h8, h9, h10, h11⟩ := h5
        obtain ⟨rfl, rfl⟩ := h7
        have hρ : ρ s.next = none := hfr _ (Nat.le_refl _) (Nat.lt_succ_self _)
        rw [app_eq] at *
        rw [lenL_eq] at h11
        have hrd := readable_Rdb h9
        have hnf : s.floor ≤ s.next := hS.fln
        by_cases hrc : len + n ≤ c
        · -- behind the row's end
          have hc0 : c ≠ 0 := by omega
          have ho' := ho hc0
          subst ho'
          obtain ⟨y1, y2⟩ := hok.2.2.2 (by rw [g3]; exact hex')
          have hsz : pl.sz = z := by rw [g2]; exact h10
          rw [hsz] at y2
          have hle : (len + n) * z ≤ c * z := Nat.mul_le_mul_right z hrc
          have hul : us.length = n * z := hc.vlen
          have hnz : (len + n) * z = len * z + n * z := Nat.add_mul _ _ _
          obtain ⟨el, hsh⟩ := g4.shape
          have hin : w.there pl.blk (pl.base + off + len * z) us.length := fun j hj =>
            ⟨(cell_of_shape hsh _).2 (by omega), g4.free h8 hrd _ (by omega)⟩
          have hrun := room_ok (ty := ty) hz hs hrc hin
          obtain ⟨q1, q2, q3, q4⟩ := world_setCells pl.blk us (pl.base + off + len * z) w
          refine ⟨_, _, _, hrun, share_out (pl2 := ⟨pl.blk, pl.base + off, pl.size, false, z⟩) hS h2 e1 h8 hρ hnf hex' hrd h10 h11 h6 hch.len hch.each rfl rfl (fun b _ hb => block_setCells _ _ hb us _ w) (shape_setCells _ _ _ _ _) (fun o => World.frozen?_setCells _ _ _ _ _)
            (fun j hj => World.cell?_setCells_out _ _ _ _ _ (fun _ _ => by left; show j < _; omega)) (.inl ⟨rfl, rfl⟩) (fun F => ⟨⟨el, by rw [shape_setCells]; exact hsh⟩, fun _ _ o ho => by rw [World.frozen?_setCells]; exact g4.free h8 hrd o ho, fun q => by simp at q, fun j c' hc' _ => ?_, fun x hx => by
              have q0 : row.ty = 0 ∨ row.ty = x.1 + 1 ∧ pl.base = 0 ∧ (row.exact = true → pl.size = row.sz) := g4.typ x (by rw [shape_setCells] at hx; exact hx)
              rw [bi_eq]
              by_cases ho0 : off = 0
              · subst ho0
                exact q0.imp (fun q => by simpa using q) (fun q => ⟨by simpa using q.1, by simpa using q.2.1, fun q => by simp at q⟩)
              · exact .inl (if_neg (by simpa using ho0))⟩) (Nat.le_of_eq q1.symm) q2 q3 q4, ?_⟩
          · have hc2 : cellAt ⟨p.1, false, z, old ++ new, bi (Nat.beq off 0) row.ty 0⟩ j = some c' := hc'
            rw [cellAt_flat hch.each] at hc2
            obtain ⟨v, v1, v2⟩ := hch.vals.get hc2
            refine ⟨v, ?_, v2.mono (Env.set_mono hρ), hch.flat v (List.mem_of_getElem? v1)⟩
            show (w.setCells pl.blk (pl.base + off + len * z) us).cell? ⟨pl.blk, pl.base + off + j, none⟩ = some v
            by_cases hj : j < len * z
            · rw [World.cell?_setCells_out _ _ _ _ _ (fun _ _ => by left; show pl.base + off + j < _; omega)]
              rw [List.getElem?_append_left (by rw [c1.vlen]; exact hj)] at v1
              have := c2 j v v1
              rwa [addr_add] at this
            · rw [List.getElem?_append_right (by rw [c1.vlen]; omega), c1.vlen] at v1
              have hju := (List.getElem?_eq_some_iff.1 v1).1
              have := World.cell?_setCells_in pl.blk us (pl.base + off + len * z) w (fun k hk => (hin k hk).1) (j - len * z) hju
              rw [show pl.base + off + len * z + (j - len * z) = pl.base + off + j from by omega] at this
              rw [this]
              rw [List.getElem?_eq_getElem hju] at v1
              exact v1
          · exact ⟨_, c, _, Env.set_same, ⟨Nat.le_refl _, hrc, fun h => by simp at h, fun _ => ⟨rfl, by show pl.base + off + 0 + c * z ≤ pl.size; omega⟩⟩, fun _ => rfl, rfl⟩
        · obtain ⟨w', q, pl2, k1, k2, k3⟩ := grow_ok (ty := ty) hz hs hch hold (by omega) h3' hρ
          obtain ⟨arr, el, lo, hi, m1, m2, m3, m4, m5⟩ := k2.mem
          have hblt : pl.blk < w.heap.size := by obtain ⟨el', hsh⟩ := g4.shape; exact lt_of_shape hsh
          have hold' : ∀ b, b < w.heap.size → w'.heap[b]? = w.heap[b]? := fun b hb => by rw [m1, Array.getElem?_push, if_neg (by omega)]
          obtain ⟨x1, x2, x3⟩ := same_block (hold' pl.blk hblt)
          exact ⟨_, w', q, k1, share_out (pl2 := pl2) hS h2 e1 h8 hρ hnf hex' hrd h10 h11 h6 hch.len hch.each k2.sz k2.exact (fun b hb _ => hold' b hb) x1 x3 (fun j _ => x2 j) (.inr k2.blk) (fun F => k2.rowAt F s.floor p.1 (bi (Nat.beq off 0) row.ty 0) (by rw [bi_eq]; split; exact hyy; exact .inl rfl)) (by rw [m1]; simp) k2.os k2.tape k2.output, k3⟩
  · simp at h
end Go.Ex

namespace Go.Ex
variable {sy : Nat → Value} {ρ : Env} {P : Program}

theorem srcD_inv {d : TypeDesc} {b : Bool} (h : srcD d = some b) : (b = false ∧ ∃ e, d = .slice e) ∨ (b = true ∧ d = .string) := by
  cases d <;> simp [srcD] at h
  · exact .inr ⟨h, rfl⟩
  · exact .inl ⟨h, _, rfl⟩
theorem bApp_ok (call : CallR) (c : Call) (x y : Operand) (hc : c.callee = .builtin .append) (hx : c.args = #[x, y]) : EffOk sy P call (.call c) (bApp x y c.argTypes) := by
  intro ρ tm a s s' v w o K Q ho hS ht hfr h hK
  simp only [bApp, ob_some] at h
  obtain ⟨zs, h1, vx, h2, vy, h3, h4⟩ := h
  obtain ⟨t, u, e1, e2⟩ := elem0_inv h1
  obtain ⟨z, str, y0⟩ := zs
  have e2' := e2
  obtain ⟨e, i, zv, d, k1, k2, k3, k4, k5, k6, k7, k8, k9⟩ := elem2_inv e2'
  simp only at h4 k4 k5 k8
  have hb := ev_V hS.sat.glob ht h2
  have hy := ev_V hS.sat.glob ht h3
  have key : ∃ ρ' w' q, (Builtin.append_ #[t, u] o.type #[a.eval x, a.eval y]).run P w = .ok q w' ∧ Out sy ρ s w ρ' s' w' ∧ V sy ρ' v q := by
    unfold appendV at h4
    split at h4
    · rename_i n b
      simp only [bi_some] at h4
      obtain ⟨h5, h6⟩ := h4
      simp at h5
      obtain ⟨rfl, rfl⟩ := h5
      rcases srcD_inv k8 with ⟨q, _⟩ | ⟨_, q⟩
      · simp at q
      · rw [q] at k7
        obtain ⟨us, c1, c2⟩ := src_string (P := P) (w := w) k7 hy
        exact appendS_ok hS e2 c1 c2 hb h6 hfr
    · rw [bi_eq] at h4
      split at h4
      · simp at h4
      · rename_i hstr
        have hstr' : str = false := by simpa using hstr
        subst hstr'
        rcases srcD_inv k8 with ⟨_, e', q⟩ | ⟨q, _⟩
        · rw [q] at k7
          rw [show a.eval y = _ from hy]
          exact appendS_ok hS e2 Ch.nil (Src.ofNil w k7 0) hb h4 hfr
        · simp at q
    · rename_i id off n cap y'
      rw [bi_eq] at h4
      split at h4
      · simp at h4
      · rename_i hstr
        have hstr' : str = false := by simpa using hstr
        subst hstr'
        simp only [ob_some] at h4
        obtain ⟨l, h5, h6⟩ := h4
        rcases srcD_inv k8 with ⟨_, e', q⟩ | ⟨q, _⟩
        · rw [q] at k7
          obtain ⟨us, c1, c2⟩ := src_slice (P := P) hS k7 h5 hy
          exact appendS_ok hS e2 c1 c2 hb h6 hfr
        · simp at q
    · simp at h4
  obtain ⟨ρ', w', q, r1, r2, r3⟩ := key
  unfold Oper.wp
  have hrun : (execOp a.eval o).run P w = .ok (.value q) w' := by
    simp [execOp, ho, resolve, hc, hx, e1, invoke, builtin, r1]
  rw [hrun]
  exact hK ρ' w' q r2 r3

/-! copy -/
theorem copy_run {w : World} {z n len c m : Nat} {us : List Value} {ao : Option Addr} {t u ty : TypeId} {str : Bool} {y0 : Nat} {x : Value} (hz : elem2 P t u = some (z, str, y0)) (hlen : ∀ w' : World, (Builtin.lenOf x).run P w' = .ok m w') (hn : n = Nat.min m len)
    (hcells : (Builtin.firstCells z n x).run P w = .ok us.toArray w) (hone : ∀ v ∈ us, v.oneCell' = true) (b o : Nat) (hao : (ao = none ∧ us = []) ∨ (ao = some ⟨b, o, none⟩ ∧ w.there b o us.length)) :
    (Builtin.copy_ #[t, u] ty #[.slice ao len c, x]).run P w = .ok (.int .i64 (n : Int)) (w.setCells b o us) := by
  obtain ⟨e, i, zv, d, k1, k2, k3, k4, k5, k6, k7, k8, k9⟩ := elem2_inv hz
  simp only at k4 k5 k8
  subst hn
  rcases hao with ⟨rfl, rfl⟩ | ⟨rfl, hin⟩
  · simp [Builtin.copy_, run_underlying k1, hlen, sizeOf, typeInfo, k2, k5, hcells, goInt, World.setCells]
  · have hst := run_storeCells_cells (P := P) b o us 0 w (fun j hj => by simpa using (hin j hj).1) (fun j hj => by simpa using (hin j hj).2) hone
    simp only [Nat.add_zero] at hst
    simp [Builtin.copy_, run_underlying k1, hlen, sizeOf, typeInfo, k2, k5, hcells, goInt, hst]
theorem bCopy_ok (call : CallR) (c : Call) (x y : Operand) (hc : c.callee = .builtin .copy) (hx : c.args = #[x, y]) : EffOk sy P call (.call c) (bCopy x y c.argTypes) := by
  intro ρ tm a s s' v w o K Q ho hS ht hfr h hK
  simp only [bCopy, ob_some] at h
  obtain ⟨zs, h1, vx, h2, vy, h3, h4⟩ := h
  obtain ⟨t, u, e1, e2⟩ := elem0_inv h1
  obtain ⟨z, str, y0⟩ := zs
  have e2' := e2
  obtain ⟨e, i, zv, d, k1, k2, k3, k4, k5, k6, k7, k8, k9⟩ := elem2_inv e2'
  simp only at h4 k4 k5 k8
  have hb := ev_V hS.sat.glob ht h2
  have hy := ev_V hS.sat.glob ht h3
  have fin : ∀ q w', (Builtin.copy_ #[t, u] o.type #[a.eval x, a.eval y]).run P w = .ok q w' → Out sy ρ s w ρ s' w' → V sy ρ v q → o.wp P a w K Q := by
    intro q w' r1 r2 r3
    unfold Oper.wp
    have hrun : (execOp a.eval o).run P w = .ok (.value q) w' := by
      simp [execOp, ho, resolve, hc, hx, e1, invoke, builtin, r1]
    rw [hrun]
    exact hK ρ w' q r2 r3
  -- onto cells that are there
  have onto : ∀ (id off n cap y' m cc oo : Nat) (pl : Pl) (l : List (List AV)) (us : List Value), ρ id = some pl → slcOk pl off n cap y' cc → (cc ≠ 0 → oo = pl.base + off) → a.eval x = .slice (some ⟨pl.blk, oo, none⟩) n cc →
      (∀ w' : World, (Builtin.lenOf (a.eval y)).run P w' = .ok m w') → Ch sy ρ z l (Nat.min m n) us → (Builtin.firstCells z (Nat.min m n) (a.eval y)).run P w = .ok us.toArray w → storeEls z id l off s = some s' → v = .int .i64 (Int.ofNat (Nat.min m n)) → o.wp P a w K Q := by
    intro id off n cap y' m cc oo pl l us g1 g2 g3 g4 g5 g6 g7 g8 g9
    subst g9
    rcases storeEls_out hS g8 g6 with ⟨q1, q2, q3⟩ | ⟨pl', q1, q2, q3, q4⟩
    · subst q1 q2 q3
      have := copy_run (P := P) (ty := o.type) (len := n) (c := cc) (ao := some ⟨pl.blk, oo, none⟩) e2 g5 rfl g7 (by simp) pl.blk oo (.inr ⟨rfl, fun j hj => by simp at hj⟩)
      exact fin _ _ (by rw [g4]; exact this) (.refl hS) rfl
    · rw [g1] at q1; simp at q1; subst q1
      by_cases hus : us = []
      · subst hus
        have := copy_run (P := P) (ty := o.type) (len := n) (c := cc) (ao := some ⟨pl.blk, oo, none⟩) e2 g5 rfl g7 (by simp) pl.blk oo (.inr ⟨rfl, fun j hj => by simp at hj⟩)
        exact fin _ _ (by rw [g4]; exact this) q3 rfl
      · have hn0 : Nat.min m n ≠ 0 := fun h0 => hus (List.eq_nil_of_length_eq_zero (by rw [g6.vlen, h0]; simp))
        have hcc : cc ≠ 0 := by
          have h1 : Nat.min m n ≤ n := Nat.min_le_right _ _
          have := g2.1
          have := g2.2.1
          omega
        have := g3 hcc
        subst this
        have := copy_run (P := P) (ty := o.type) (len := n) (c := cc) (ao := some ⟨pl.blk, pl.base + off, none⟩) e2 g5 rfl g7 (fun u hu => (g6.flat u hu).one) pl.blk (pl.base + off) (.inr ⟨rfl, q2⟩)
        exact fin _ _ (by rw [g4]; exact this) q3 rfl
  have nothing : ∀ (ao : Option Addr) (n cc m : Nat), a.eval x = .slice ao n cc → (∀ w' : World, (Builtin.lenOf (a.eval y)).run P w' = .ok m w') → Nat.min m n = 0 → (Builtin.firstCells z 0 (a.eval y)).run P w = .ok #[] w → s' = s → v = .int .i64 0 → o.wp P a w K Q := by
    intro ao n cc m g1 g2 g3 g4 g5 g6
    subst g5 g6
    cases ao with
    | none =>
      have := copy_run (P := P) (ty := o.type) (len := n) (c := cc) (ao := none) (n := 0) (us := []) e2 g2 g3.symm g4 (by simp) 0 0 (.inl ⟨rfl, rfl⟩)
      exact fin _ _ (by rw [g1]; exact this) (.refl hS) rfl
    | some ad =>
      obtain ⟨e, i, zv, d, k1, k2, k3, k4, k5, k6, k7, k8, k9⟩ := elem2_inv e2
      simp only at k5
      have g3' : min m n = 0 := g3
      refine fin (.int .i64 0) w ?_ (.refl hS) rfl
      rw [g1]
      simp [Builtin.copy_, run_underlying k1, g2, sizeOf, typeInfo, k2, k5, goInt, g3', g4, storeCells]
  unfold copyV at h4
  split at h4
  · rename_i id off n cap y' id2 off2 m cap2 y2
    rw [bi_eq] at h4
    split at h4
    · simp at h4
    · simp only [ob_some] at h4
      obtain ⟨l, h5, s1, h6, h7⟩ := h4
      simp at h7
      obtain ⟨rfl, rfl⟩ := h7
      obtain ⟨pl, cc, oo, g1, g2, g3, g4⟩ := hb
      obtain ⟨pl2, cc2, oo2, j1, j2, j3, j4⟩ := hy
      obtain ⟨us, c1, c2⟩ := elemsN_at hS h5
      refine onto id off n cap y' m cc oo pl l us g1 g2 g3 g4 (fun w' => by rw [j4]; rfl) c1 ?_ h6 rfl
      rw [j4]
      refine run_firstCells_some w z _ _ _ _ us c1.vlen (fun j u hj => ?_)
      have hn0 : Nat.min m n ≠ 0 := by
        intro h0
        have := c1.vlen
        rw [h0] at this
        have := (List.getElem?_eq_some_iff.1 hj).1
        omega
      obtain ⟨pl', q1, q2, q3⟩ := c2 hn0
      rw [j1] at q1; simp at q1; subst q1
      have h1 : Nat.min m n ≤ m := Nat.min_le_left _ _
      have := j3 (by have := j2.1; have := j2.2.1; omega)
      subst this
      rw [addr_add]
      exact q3 j u hj
  · rename_i id off n cap y' m b
    simp only [bi_some, ob_some] at h4
    obtain ⟨h5, s1, h6, h7⟩ := h4
    simp at h5 h7
    obtain ⟨rfl, rfl⟩ := h5
    obtain ⟨rfl, rfl⟩ := h7
    obtain ⟨pl, cc, oo, g1, g2, g3, g4⟩ := hb
    obtain ⟨str, j1, j2, j3⟩ := hy
    have hk : Nat.min m n ≤ str.data.toList.length := by rw [j2]; exact Nat.min_le_left _ _
    have hch := bytesL_Ch (sy := sy) (ρ := ρ) (str.data.toList.take (Nat.min m n))
    rw [List.length_take, Nat.min_eq_left hk, pack_take _ _ hk, j3] at hch
    refine onto id off n cap y' m cc oo pl _ _ g1 g2 g3 g4 (fun w' => by rw [j1]; simp [Builtin.lenOf, Lib.size_eq, j2]) hch ?_ h6 rfl
    rw [j1]
    simp only [Builtin.firstCells, Sem.run_pure]
    congr 1
    apply Array.ext'
    simp
  · rename_i id2 off2 m cap2 y2
    rw [bi_eq] at h4
    split at h4
    · simp at h4
    · simp at h4
      obtain ⟨rfl, rfl⟩ := h4
      obtain ⟨pl2, cc2, oo2, j1, j2, j3, j4⟩ := hy
      exact nothing none 0 0 m hb (fun w' => by rw [j4]; rfl) (Nat.min_eq_right (Nat.zero_le _)) (by rw [j4]; simp [Builtin.firstCells, loadCells, loadCellsFrom]) rfl rfl
  · rename_i id off n cap y'
    rw [bi_eq] at h4
    split at h4
    · simp at h4
    · simp at h4
      obtain ⟨rfl, rfl⟩ := h4
      obtain ⟨pl, cc, oo, g1, g2, g3, g4⟩ := hb
      have hy' : a.eval y = .slice none 0 0 := hy
      exact nothing _ n cc 0 g4 (fun w' => by rw [hy']; rfl) (Nat.min_eq_left (Nat.zero_le _)) (by rw [hy']; simp [Builtin.firstCells]) rfl rfl
  · rw [bi_eq] at h4
    split at h4
    · simp at h4
    · simp at h4
      obtain ⟨rfl, rfl⟩ := h4
      have hy' : a.eval y = .slice none 0 0 := hy
      exact nothing none 0 0 0 hb (fun w' => by rw [hy']; rfl) rfl (by rw [hy']; simp [Builtin.firstCells]) rfl rfl
  · simp at h4

/-! calls -/
/-- what is known of calls -/
def CallOk (sy : Nat → Value) (P : Program) (call : CallR) : Prop :=
  ∀ (ρ : Env) (f : FuncId) (args : List AV) (s s' : St) (v : AV) (w : World) (vs : Array Value), SatS sy ρ s w → VL sy ρ args vs.toList → Fresh ρ s.next s'.next → call f args s = some (v, s') →
    Calls P f vs w fun e w' => ∃ ρ' u, e = .returned u ∧ Out sy ρ s w ρ' s' w' ∧ V sy ρ' v u
end Go.Ex

namespace Go.Ex
variable {sy : Nat → Value} {ρ : Env} {P : Program}

/-- what a function's call needs of it -/
def Enters (P : Program) (f : FuncId) : Prop := ∃ fn, P.funcs[f]? = some fn ∧ (fn.name == "runtime.NumGoroutine") = false ∧ fn.body.isNone = false
/-- what is known of calls -/
structure CallsOk (sy : Nat → Value) (P : Program) (call : CallR) : Prop where
  ok : CallOk sy P call
  enters : ∀ f args s r, call f args s = some r → Enters P f
theorem callFunc_run {f : FuncId} {args : Array Value} {w : World} (h : Enters P f) : (callFunc f args).run P w = .ok (.enter f args) w := by
  obtain ⟨fn, h1, h2, h3⟩ := h
  have h2' : ¬ (fn.name = "runtime.NumGoroutine") := by simpa using h2
  have h3' : fn.body ≠ none := by intro e; rw [e] at h3; simp at h3
  simp [callFunc, h1, h2', h3']
theorem aCallV_ok {call : CallR} (hcall : CallsOk sy P call) (c : Call) (f : Operand) (hc : c.callee = .value f) : EffOk sy P call (.call c) (aCallV f c.args) := by
  intro ρ tm a s s' v w o K Q ho hS ht hfr h hK
  simp only [aCallV, ob_some] at h
  obtain ⟨args, h1, fv, h2, h3⟩ := h
  have ha := evs_VL hS.sat.glob ht h1
  have hf := ev_V hS.sat.glob ht h2
  unfold callF at h3
  split at h3
  · rename_i fid x y
    obtain ⟨fx, fy, e1, e2, e3⟩ := hf
    rw [app_eq, app_eq] at h3
    have hen := hcall.enters _ _ _ _ h3
    have hargs : VL sy ρ (x ++ args ++ y) (fx ++ c.args.map a.eval ++ fy).toList := by
      simp only [Array.toList_append, Array.toList_map]
      exact (e2.append ha).append e3
    have hcalls := hcall.ok ρ fid _ s s' v w _ hS hargs hfr h3
    have hrun : (execOp a.eval o).run P w = .ok (.enter fid (fx ++ c.args.map a.eval ++ fy)) w := by
      simp only [execOp, ho, resolve, hc, e1, Deferred.ofValue, Sem.run_bind, Sem.run_pure, Result.andThen_ok, invoke]
      exact callFunc_run hen
    unfold Oper.wp
    rw [hrun, Oper.upon_enter]
    refine hcalls.mono fun e w' ⟨ρ', u, he, hout, hv⟩ => ?_
    subst he
    exact hK ρ' w' u hout hv
  · simp at h3

/-! an operation, of whatever kind -/
theorem kBuiltin_pure {c : Call} {b : Builtin} {f : PO} (hc : c.callee = .builtin b) (h : kBuiltin b c = .pure f) : OOk sy P (.call c) f := by
  cases b <;> simp only [kBuiltin] at h
  case len =>
    obtain ⟨x, e1, e2⟩ := ops1_inv h (by simp)
    simp at e2; subst e2
    exact bLen_ok c x hc e1
  case max =>
    obtain ⟨x, y, e1, e2⟩ := ops2_inv h (by simp)
    simp at e2; subst e2
    exact max_ok c x y hc e1
  case min =>
    obtain ⟨x, y, e1, e2⟩ := ops2_inv h (by simp)
    simp at e2; subst e2
    exact min_ok c x y hc e1
  case append => obtain ⟨x, y, e1, e2⟩ := ops2_inv h (by simp); simp at e2
  case copy => obtain ⟨x, y, e1, e2⟩ := ops2_inv h (by simp); simp at e2
  all_goals simp at h
theorem kBuiltin_eff {c : Call} {b : Builtin} {call : CallR} {f : CallR → O} (hc : c.callee = .builtin b) (h : kBuiltin b c = .eff f) : EffOk sy P call (.call c) f := by
  cases b <;> simp only [kBuiltin] at h
  case append =>
    obtain ⟨x, y, e1, e2⟩ := ops2_inv h (by simp)
    simp at e2; subst e2
    exact bApp_ok call c x y hc e1
  case copy =>
    obtain ⟨x, y, e1, e2⟩ := ops2_inv h (by simp)
    simp at e2; subst e2
    exact bCopy_ok call c x y hc e1
  case len => obtain ⟨x, e1, e2⟩ := ops1_inv h (by simp); simp at e2
  case max => obtain ⟨x, y, e1, e2⟩ := ops2_inv h (by simp); simp at e2
  case min => obtain ⟨x, y, e1, e2⟩ := ops2_inv h (by simp); simp at e2
  all_goals simp at h
theorem kBuiltin_none {c : Call} {b : Builtin} : (∀ f, kBuiltin b c ≠ .read f) ∧ ∀ f, kBuiltin b c ≠ .new f := by
  constructor <;> intro f h <;> cases b <;> simp only [kBuiltin] at h <;> first
    | (obtain ⟨x, e1, e2⟩ := ops1_inv h (by simp); simp at e2; done)
    | (obtain ⟨x, y, e1, e2⟩ := ops2_inv h (by simp); simp at e2; done)
    | (simp at h; done)
theorem kind_pure {op : Op} {f : PO} (h : kind op P = .pure f) : OOk sy P op f := by
  cases op
  case move x => cases h; exact aMove_ok x
  case assign x => cases h; exact aAssign_ok x
  case pick c x y => cases h; exact aPick_ok c x y
  case build t p => cases h; exact aBuild_ok t p
  case nilCheck x => cases h; exact aNilCheck_ok x
  case binOp o t x y u =>
    have h' : kBin o t x y u P = .pure f := h
    unfold kBin at h'
    split at h'
    · rw [bi_eq] at h'
      split at h'
      · simp at h'
      · simp at h'; subst h'; exact aBin_ok o t x y u
    · simp at h'
  case unOp o t x => cases h; exact aUn_ok o t x
  case convert s d x =>
    have h' : kConvert s d x P = .pure f := h
    unfold kConvert at h'
    split at h'
    · rename_i ds dd hs hd
      unfold kConv at h'
      split at h' <;> simp at h' <;> subst h'
      · exact cvInt_ok hd hs
      · exact cvStr_ok hd hs
      · exact cvFlo_ok hd hs
    · simp at h'
  case makeInterface t x => cases h; exact aIface_ok t x
  case makeFunc f a b => cases h; exact aFunc_ok f a b
  case slice t x l h' m => cases h; exact aSlice_ok t x l h' m
  case fieldAddr t x i => cases h; exact aFieldAddr_ok t x i
  case field t x i => cases h; exact aField_ok t x i
  case indexAddr t x i => cases h; exact aIndexAddr_ok t x i
  case index t x i => cases h; exact aIndex_ok t x i
  case typeAssert x t u ok => cases h; exact aAssert_ok x t u ok
  case extract t i => cases h; exact aExtract_ok t i
  case call c =>
    have h' : kCall c = .pure f := h
    unfold kCall at h'
    split at h'
    · rename_i b hb; exact kBuiltin_pure hb h'
    · simp at h'
    · simp at h'
  all_goals cases h
theorem kind_read {op : Op} {f : RO} (h : kind op P = .read f) : ReadOk sy P op f := by
  cases op
  case load t x => cases h; exact rLoad_ok t x
  case binOp o t x y u =>
    have h' : kBin o t x y u P = .read f := h
    unfold kBin at h'
    split at h'
    · rw [bi_eq] at h'
      split at h'
      · simp at h'; subst h'; exact rEq_ok o t x y u
      · simp at h'
    · simp at h'
  case convert s d x =>
    have h' : kConvert s d x P = .read f := h
    unfold kConvert at h'
    split at h'
    · rename_i ds dd hs hd
      unfold kConv at h'
      split at h' <;> simp at h' <;> subst h'
      exact rOfBytes_ok hs hd
    · simp at h'
  case call c =>
    have h' : kCall c = .read f := h
    unfold kCall at h'
    split at h'
    · exact absurd h' (kBuiltin_none.1 f)
    · simp at h'
    · simp at h'
  all_goals cases h
theorem kind_new {op : Op} {f : NO} (h : kind op P = .new f) : NewOk sy P op f := by
  cases op
  case alloc e => cases h; exact aAlloc_ok e
  case box e x => cases h; exact aBox_ok e x
  case buildSlice t n p => cases h; exact aBuildSlice_ok t n p
  case makeSlice t l c => cases h; exact aMakeSlice_ok t l c
  case binOp o t x y u =>
    have h' : kBin o t x y u P = .new f := h
    unfold kBin at h'
    split at h'
    · rw [bi_eq] at h'
      split at h' <;> simp at h'
    · simp at h'
  case convert s d x =>
    have h' : kConvert s d x P = .new f := h
    unfold kConvert at h'
    split at h'
    · rename_i ds dd hs hd
      unfold kConv at h'
      split at h' <;> simp at h' <;> subst h'
      exact cvToBytes_ok hs hd
    · simp at h'
  case call c =>
    have h' : kCall c = .new f := h
    unfold kCall at h'
    split at h'
    · exact absurd h' (kBuiltin_none.2 f)
    · simp at h'
    · simp at h'
  all_goals cases h
theorem kind_eff {op : Op} {f : CallR → O} {call : CallR} (hcall : CallsOk sy P call) (h : kind op P = .eff f) : EffOk sy P call op f := by
  cases op
  case store t x y => cases h; exact aStore_ok call t x y
  case binOp o t x y u =>
    have h' : kBin o t x y u P = .eff f := h
    unfold kBin at h'
    split at h'
    · rw [bi_eq] at h'
      split at h' <;> simp at h'
    · simp at h'
  case convert s d x =>
    have h' : kConvert s d x P = .eff f := h
    unfold kConvert at h'
    split at h'
    · unfold kConv at h'
      split at h' <;> simp at h'
    · simp at h'
  case call c =>
    have h' : kCall c = .eff f := h
    unfold kCall at h'
    split at h'
    · rename_i b hb; exact kBuiltin_eff hb h'
    · rename_i g hg; simp at h'; subst h'; exact aCallV_ok hcall c g hg
    · simp at h'
  all_goals cases h
end Go.Ex

namespace Go.Ex
variable {sy : Nat → Value} {ρ : Env} {P : Program}

/-! the next id only grows -/
def Grows (call : CallR) : Prop := ∀ f args s v s', call f args s = some (v, s') → s.next ≤ s'.next
theorem storeC_next {s s' : St} {id off : Nat} {vs : List AV} (h : storeC s id off vs = some s') : s'.next = s.next := by
  simp only [storeC, bi_some, ob_some] at h
  obtain ⟨-, row, -, h⟩ := h
  unfold storeR at h
  simp only [bi_some, ob_some, Option.some.injEq] at h
  obtain ⟨-, x, -, y, -, rfl⟩ := h
  rfl
theorem storeEls_next {z id : Nat} : ∀ {l : List (List AV)} {off : Nat} {s s' : St}, storeEls z id l off s = some s' → s'.next = s.next
  | [], off, s, s', h => by
    have h' : some s = some s' := h
    simp at h'; subst h'; rfl
  | c :: l, off, s, s', h => by
    have h' : ob (storeC s id off c) (fun s' => storeEls z id l (Nat.add off z) s') = some s' := h
    rw [ob_some] at h'
    obtain ⟨s1, h1, h2⟩ := h'
    rw [storeEls_next h2, storeC_next h1]
theorem appendS_next {s s' : St} {z y n : Nat} {x v : AV} {new : List (List AV)} (h : appendS s z y x new n = some (v, s')) : s.next ≤ s'.next := by
  unfold appendS at h
  split at h
  · split at h
    · simp at h; rw [h.2]; exact Nat.le_refl _
    · simp only [bi_some, Option.some.injEq, Prod.mk.injEq] at h
      rw [← h.2.2]; exact Nat.le_succ _
  · rw [bi_eq] at h
    split at h
    · simp only [ob_some, Option.some.injEq, Prod.mk.injEq] at h
      obtain ⟨s1, h1, -, rfl⟩ := h
      rw [storeEls_next h1]; exact Nat.le_refl _
    · simp only [appendN, ob_some, bi_some] at h
      obtain ⟨old, -, row, -, -, h⟩ := h
      rw [bi_eq] at h
      split at h
      · simp only [Option.some.injEq, Prod.mk.injEq] at h
        rw [← h.2]; exact Nat.le_succ _
      · simp only [appendU, ob_some, bi_some, Option.some.injEq, Prod.mk.injEq] at h
        obtain ⟨-, p, -, -, rfl⟩ := h
        exact Nat.le_succ _
  · simp at h
theorem appendV_next {s s' : St} {z e : Nat} {str : Bool} {x y v : AV} (h : appendV s z e str x y = some (v, s')) : s.next ≤ s'.next := by
  unfold appendV at h
  split at h
  · rw [bi_some] at h; exact appendS_next h.2
  · rw [bi_eq] at h
    split at h
    · simp at h
    · exact appendS_next h
  · rw [bi_eq] at h
    split at h
    · simp at h
    · rw [ob_some] at h
      obtain ⟨l, -, h⟩ := h
      exact appendS_next h
  · simp at h
theorem copyV_next {s s' : St} {z : Nat} {str : Bool} {x y v : AV} (h : copyV s z str x y = some (v, s')) : s.next ≤ s'.next := by
  unfold copyV at h
  split at h
  all_goals try rw [bi_eq] at h
  all_goals try split at h
  all_goals try (simp at h; done)
  all_goals first
    | (simp only [ob_some, Option.some.injEq, Prod.mk.injEq] at h
       obtain ⟨l, -, s1, h1, -, rfl⟩ := h
       rw [storeEls_next h1]; exact Nat.le_refl _)
    | (simp only [ob_some, Option.some.injEq, Prod.mk.injEq] at h
       obtain ⟨s1, h1, -, rfl⟩ := h
       rw [storeEls_next h1]; exact Nat.le_refl _)
    | (simp only [Option.some.injEq, Prod.mk.injEq] at h
       rw [← h.2]; exact Nat.le_refl _)
theorem kBuiltin_next {c : Call} {b : Builtin} {call : CallR} {f : CallR → O} (h : kBuiltin b c = .eff f) {tm : T AV} {s s' : St} {v : AV} (hr : f call P tm s = some (v, s')) : s.next ≤ s'.next := by
  cases b <;> simp only [kBuiltin] at h
  case append =>
    obtain ⟨x, y, e1, e2⟩ := ops2_inv h (by simp)
    simp at e2; subst e2
    simp only [bApp, ob_some] at hr
    obtain ⟨z, -, v, -, u, -, hr⟩ := hr
    exact appendV_next hr
  case copy =>
    obtain ⟨x, y, e1, e2⟩ := ops2_inv h (by simp)
    simp at e2; subst e2
    simp only [bCopy, ob_some] at hr
    obtain ⟨z, -, v, -, u, -, hr⟩ := hr
    exact copyV_next hr
  case len => obtain ⟨x, e1, e2⟩ := ops1_inv h (by simp); simp at e2
  case max => obtain ⟨x, y, e1, e2⟩ := ops2_inv h (by simp); simp at e2
  case min => obtain ⟨x, y, e1, e2⟩ := ops2_inv h (by simp); simp at e2
  all_goals simp at h
theorem kind_next {op : Op} {f : CallR → O} {call : CallR} (hg : Grows call) (h : kind op P = .eff f) {tm : T AV} {s s' : St} {v : AV} (hr : f call P tm s = some (v, s')) : s.next ≤ s'.next := by
  cases op
  case store t x y =>
    cases h
    simp only [aStore, ob_some, Option.some.injEq, Prod.mk.injEq] at hr
    obtain ⟨_, -, _, -, _, -, _, -, _, -, s1, h1, -, rfl⟩ := hr
    rw [storeC_next h1]; exact Nat.le_refl _
  case binOp o t x y u =>
    have h' : kBin o t x y u P = .eff f := h
    unfold kBin at h'
    split at h'
    · rw [bi_eq] at h'
      split at h' <;> simp at h'
    · simp at h'
  case convert s d x =>
    have h' : kConvert s d x P = .eff f := h
    unfold kConvert at h'
    split at h'
    · unfold kConv at h'
      split at h' <;> simp at h'
    · simp at h'
  case call c =>
    have h' : kCall c = .eff f := h
    unfold kCall at h'
    split at h'
    · rename_i b hb; exact kBuiltin_next h' hr
    · rename_i g hgc
      simp at h'; subst h'
      simp only [aCallV, ob_some] at hr
      obtain ⟨args, -, fv, -, hr⟩ := hr
      unfold callF at hr
      split at hr
      · exact hg _ _ _ _ _ hr
      · simp at hr
    · simp at h'
  all_goals cases h
theorem runK_next {op : Op} {call : CallR} (hg : Grows call) {tm : T AV} {s s' : St} {v : AV} (h : runK (kind op P) call P tm s = some (v, s')) : s.next ≤ s'.next := by
  cases hk : kind op P with
  | pure f =>
    rw [hk] at h
    have h' : ob (f P tm) (fun v => some (v, s)) = some (v, s') := h
    simp only [ob_some, Option.some.injEq, Prod.mk.injEq] at h'
    obtain ⟨y, -, -, rfl⟩ := h'
    exact Nat.le_refl _
  | read f =>
    rw [hk] at h
    have h' : ob (f P tm s) (fun r => some (r.v, s)) = some (v, s') := h
    simp only [ob_some, Option.some.injEq, Prod.mk.injEq] at h'
    obtain ⟨y, -, -, rfl⟩ := h'
    exact Nat.le_refl _
  | new f =>
    rw [hk] at h
    have h' : ob (f P tm s.next) (fun r => some (r.1, addRow s r.2)) = some (v, s') := h
    simp only [ob_some, Option.some.injEq, Prod.mk.injEq] at h'
    obtain ⟨y, -, -, rfl⟩ := h'
    exact Nat.le_succ _
  | eff f =>
    rw [hk] at h
    exact kind_next hg hk h
  | bad =>
    rw [hk] at h
    have h' : (none : Option (AV × St)) = some (v, s') := h
    simp at h'

/-! a frame -/
/-- a frame of the size that the function asks, without defers -/
structure Frm (nt : Nat) (a : Act) : Prop where
  size : nt ≤ a.tmps.size
  defers : a.defers = []
theorem Frm.put {nt : Nat} {a : Act} (h : Frm nt a) (d : Option Tmp) (u : Value) : Frm nt (a.put d u) := by
  cases d <;> exact ⟨by simpa [Act.put] using h.size, by simpa [Act.put] using h.defers⟩
theorem TM.put {nt : Nat} {tm : T AV} {a : Act} {o : Oper} {v : AV} {u : Value} (h : TM sy ρ tm a) (hf : Frm nt a) (hd : dstOk nt o = true) (hv : V sy ρ v u) : TM sy ρ (put tm v o.dst) (a.put o.dst u) := by
  unfold dstOk at hd
  cases ho : o.dst with
  | none => exact h
  | some t =>
    rw [ho] at hd
    have ht : t < a.tmps.size := Nat.lt_of_lt_of_le (by simpa [Nat.blt_eq] using hd) hf.size
    intro x y hx
    have hx' : (tm.set t v).get x = some y := hx
    rw [T.get_set] at hx'
    by_cases e : x = t
    · subst e
      rw [if_pos rfl] at hx'; simp at hx'; subst hx'
      simpa [Act.put, Array.getD_eq_getD_getElem?, Array.getElem?_setIfInBounds, ht] using hv
    · rw [if_neg e] at hx'
      have := h x y hx'
      simpa [Act.put, Array.getD_eq_getD_getElem?, Array.getElem?_setIfInBounds, Ne.symm e] using this
theorem V_undef : V sy ρ (.tup []) undef := ⟨#[], rfl, rfl⟩

/-! guards -/
theorem V_notBool {v : AV} {u : Value} (h : V sy ρ v u) (h1 : ∀ b, v ≠ .bool b) (h2 : ∀ j, v ≠ .sym j) : ∀ b, u ≠ .bool b := by
  intro b e
  cases v
  case bool c => exact h1 c rfl
  case sym j => exact h2 j rfl
  all_goals (simp only [V] at h; subst e; simp at h)
theorem want_wanted {ops : Array Oper} {tm : T AV} {a : Act} {o : Oper} {w : Bool} (h : TM sy ρ tm a) (hw : want ops tm o.guard = some w) : Region.wanted o (yielded ops a.tmps) = w := by
  unfold Region.wanted
  cases hg : o.guard with
  | none => rw [hg] at hw; simpa [want] using hw
  | some p =>
    obtain ⟨j, b⟩ := p
    rw [hg] at hw
    simp only [want, ob_some] at hw
    obtain ⟨x, h1, d, h2, v, h3, h4⟩ := hw
    have hv := h d v h3
    rw [Array.getD_eq_getD_getElem?] at hv
    have hy : yielded ops a.tmps j = match a.tmps[d]? with
      | some (.bool b) => some b
      | _ => none := by unfold yielded; simp only [h1, h2, Option.bind_some]; rfl
    show (yielded ops a.tmps j == some b) = w
    rw [hy]
    by_cases hb : ∃ c, v = .bool c
    · obtain ⟨c, rfl⟩ := hb
      simp only [wantV, Option.some.injEq] at h4
      cases hz : a.tmps[d]? with
      | none => rw [hz] at hv; simp [V, undef] at hv
      | some z =>
        rw [hz] at hv
        simp [V] at hv
        subst hv
        rw [bi_eq] at h4
        cases c <;> cases b <;> simp_all
    · have h5 : ∀ j, v ≠ .sym j := by
        rintro j rfl
        simp [wantV] at h4
      have h6 : w = false := by
        cases v
        case bool c => exact absurd ⟨c, rfl⟩ hb
        case sym j => exact absurd rfl (h5 j)
        all_goals (simp [wantV] at h4; exact h4)
      have h7 := V_notBool hv (fun c e => hb ⟨c, e⟩) h5
      subst h6
      cases hz : a.tmps[d]? with
      | none => rfl
      | some z =>
        rw [hz] at h7
        cases z
        case bool c => exact absurd rfl (h7 c)
        all_goals rfl

/-! an operation, in order -/
theorem op_wp {call : CallR} (hcall : CallsOk sy P call) {o : Oper} {tm : T AV} {a : Act} {s s' : St} {v : AV} {w : World} {K : Act → World → Prop} {Q : Exit → Act → World → Prop}
    (hS : SatS sy ρ s w) (ht : TM sy ρ tm a) (hf : Fresh ρ s.next s'.next) (h : runK (kind o.op P) call P tm s = some (v, s'))
    (hK : ∀ ρ' w' u, Out sy ρ s w ρ' s' w' → V sy ρ' v u → K (a.put o.dst u) w') : o.wp P a w K Q := by
  cases hk : kind o.op P with
  | pure f =>
    rw [hk] at h
    have h' : ob (f P tm) (fun v => some (v, s)) = some (v, s') := h
    simp only [ob_some, Option.some.injEq, Prod.mk.injEq] at h'
    obtain ⟨y, h1, rfl, rfl⟩ := h'
    obtain ⟨u, g1, g2⟩ := kind_pure hk ρ tm a y o rfl hS.sat.glob ht h1
    unfold Oper.wp; rw [g1 w]
    exact hK ρ w u (.refl hS) g2
  | read f =>
    rw [hk] at h
    have h' : ob (f P tm s) (fun r => some (r.v, s)) = some (v, s') := h
    simp only [ob_some, Option.some.injEq, Prod.mk.injEq] at h'
    obtain ⟨y, h1, rfl, rfl⟩ := h'
    obtain ⟨u, g1, g2⟩ := kind_read hk ρ tm a s y o w rfl hS ht h1
    unfold Oper.wp; rw [g1]
    exact hK ρ w u (.refl hS) g2
  | new f =>
    rw [hk] at h
    have h' : ob (f P tm s.next) (fun r => some (r.1, addRow s r.2)) = some (v, s') := h
    simp only [ob_some, Option.some.injEq, Prod.mk.injEq] at h'
    obtain ⟨y, h1, rfl, rfl⟩ := h'
    have hn : ρ s.next = none := hf _ (Nat.le_refl _) (Nat.lt_succ_self _)
    obtain ⟨u, w', pl, g1, g2, g3⟩ := kind_new hk ρ tm a s.next y.1 y.2 o rfl hS.sat.glob ht h1 hn w
    unfold Oper.wp; rw [g1]
    exact hK _ w' u (addRow_out hS hn g2) g3
  | eff f =>
    rw [hk] at h
    exact kind_eff hcall hk ρ tm a s s' v w o K Q rfl hS ht hf h hK
  | bad =>
    rw [hk] at h
    have h' : (none : Option (AV × St)) = some (v, s') := h
    simp at h'

theorem allL_cons {α : Type} {f : α → Bool} {x : α} {l : List α} : allL f (x :: l) = true ↔ f x = true ∧ allL f l = true := by
  show (f x && allL f l) = true ↔ _
  simp
theorem allL_mem {α : Type} {f : α → Bool} : ∀ {l : List α}, allL f l = true ↔ ∀ x ∈ l, f x = true
  | [] => by simp; rfl
  | x :: l => by rw [allL_cons, allL_mem]; simp

theorem opsRun_cons {call : CallR} {ops : Array Oper} {o : Oper} {l : List Oper} {tm : T AV} {s : St} {r : T AV × St} (h : opsRun P call ops (o :: l) tm s = some r) :
    ∃ w v s1, want ops tm o.guard = some w ∧ opRun P call o tm s w = some (v, s1) ∧ opsRun P call ops l (put tm v o.dst) s1 = some r := by
  have h' : ob (want ops tm o.guard) (fun w => ob (opRun P call o tm s w) fun r => opsRun P call ops l (put tm r.1 o.dst) r.2) = some r := h
  simp only [ob_some] at h'
  obtain ⟨w, h1, ⟨v, s1⟩, h2, h3⟩ := h'
  exact ⟨w, v, s1, h1, h2, h3⟩
theorem opRun_next {call : CallR} (hg : Grows call) {o : Oper} {tm : T AV} {s s' : St} {v : AV} {w : Bool} (h : opRun P call o tm s w = some (v, s')) : s.next ≤ s'.next := by
  unfold opRun at h
  rw [bi_eq] at h
  split at h
  · exact runK_next hg h
  · simp at h; rw [h.2]; exact Nat.le_refl _
theorem opsRun_next {call : CallR} {ops : Array Oper} (hg : Grows call) : ∀ {l : List Oper} {tm : T AV} {s : St} {r : T AV × St}, opsRun P call ops l tm s = some r → s.next ≤ r.2.next
  | [], tm, s, r, h => by
    have h' : some (tm, s) = some r := h
    simp at h'; subst h'; exact Nat.le_refl _
  | o :: l, tm, s, r, h => by
    obtain ⟨w, v, s1, h1, h2, h3⟩ := opsRun_cons h
    exact Nat.le_trans (opRun_next hg h2) (opsRun_next hg h3)
theorem opsRun_wp {call : CallR} (hcall : CallsOk sy P call) (hg : Grows call) {ops : Array Oper} {nt : Nat} {Q : Exit → Act → World → Prop} : ∀ (l : List Oper) (ρ : Env) (tm : T AV) (a : Act) (s : St) (w : World) (r : T AV × St),
    (∀ o ∈ l, dstOk nt o = true) → SatS sy ρ s w → TM sy ρ tm a → Frm nt a → Fresh ρ s.next r.2.next → opsRun P call ops l tm s = some r →
    (∀ ρ' w' a', Out sy ρ s w ρ' r.2 w' → TM sy ρ' r.1 a' → Frm nt a' → Q .normal a' w') → wpList P ops Q l a w
  | [], ρ, tm, a, s, w, r, hd, hS, ht, hf, hfr, h, hQ => by
    have h' : some (tm, s) = some r := h
    simp at h'; subst h'
    exact hQ ρ w a (.refl hS) ht hf
  | o :: l, ρ, tm, a, s, w, r, hd, hS, ht, hf, hfr, h, hQ => by
    obtain ⟨b, v, s1, h1, h2, h3⟩ := opsRun_cons h
    have hm := opsRun_next hg h3
    have hw := want_wanted ht h1
    refine wpList_step fun K hK => ?_
    have hrest : ∀ ρ' w' u, Out sy ρ s w ρ' s1 w' → V sy ρ' v u → K (a.put o.dst u) w' := fun ρ' w' u ho hv => by
      refine hK _ _ (opsRun_wp hcall hg l ρ' _ _ s1 w' r (fun x hx => hd x (List.mem_cons_of_mem _ hx)) ho.sat ((ht.mono ho.fr.mono).put hf (hd o (List.mem_cons_self ..)) hv) (hf.put _ _) (ho.fresh hfr) h3 ?_)
      exact fun ρ2 w2 a2 ho2 ht2 hf2 => hQ ρ2 w2 a2 (ho.trans ho2 hfr) ht2 hf2
    unfold opRun at h2
    rw [bi_eq] at h2
    rw [hw]
    cases b with
    | true =>
      simp only [if_true] at h2 ⊢
      exact op_wp hcall hS ht (hfr.sub (Nat.le_refl _) hm) h2 hrest
    | false =>
      simp at h2
      obtain ⟨rfl, rfl⟩ := h2
      simp only [Bool.false_eq_true, if_false]
      exact hrest ρ w undef (.refl hS) V_undef
end Go.Ex

namespace Go.Ex
variable {sy : Nat → Value} {ρ : Env} {P : Program}

def exQ : Ex → Exit
  | .normal => .normal
  | .exit i => .exit i
  | .ret => .ret
/-- what a run says of its code -/
def Sound (n : Nat) (P : Program) (c : Code) (Q : Exit → Act → World → Prop) (a : Act) (w : World) : Prop := match c with
  | .loop b => Code.rounds P b Q n a w
  | c => c.wp P Q a w
theorem Sound.wp {n : Nat} {c : Code} {Q : Exit → Act → World → Prop} {a : Act} {w : World} (h : Sound n P c Q a w) : c.wp P Q a w := by
  cases c
  case loop b => exact wp_loop_rounds n h
  all_goals exact h
def RecOk (n : Nat) (sy : Nat → Value) (P : Program) (rec : Rec) : Prop :=
  ∀ (c : Code) (nt : Nat) (ρ : Env) (tm : T AV) (a : Act) (s : St) (w : World) (r : Ex × T AV × St) (Q : Exit → Act → World → Prop), dsts nt c = true → SatS sy ρ s w → TM sy ρ tm a → Frm nt a → Fresh ρ s.next r.2.2.next →
    rec c tm s = some r → (∀ ρ' w' a', Out sy ρ s w ρ' r.2.2 w' → TM sy ρ' r.2.1 a' → Frm nt a' → Q (exQ r.1) a' w') → Sound n P c Q a w
def RecGrows (rec : Rec) : Prop := ∀ c tm s r, rec c tm s = some r → s.next ≤ r.2.2.next
/-- what is known of the regions that draw their order -/
structure DrawnOk (sy : Nat → Value) (P : Program) (call : CallR) : Prop where
  ok : ∀ (ops : Array Oper) (id nt : Nat) (ρ : Env) (tm : T AV) (a : Act) (s : St) (w : World) (r : T AV × St) (Q : Exit → Act → World → Prop), (∀ o ∈ ops.toList, dstOk nt o = true) → SatS sy ρ s w → TM sy ρ tm a → Frm nt a → Fresh ρ s.next r.2.next →
    drawn P call ops tm s = some r → (∀ ρ' w' a', Out sy ρ s w ρ' r.2 w' → TM sy ρ' r.1 a' → Frm nt a' → Q .normal a' w') → (Code.region id ops true).wp P Q a w
  grows : ∀ (ops : Array Oper) (tm : T AV) (s : St) (r : T AV × St), drawn P call ops tm s = some r → s.next ≤ r.2.next

theorem and_true' {a b : Bool} : Bool.and a b = true ↔ a = true ∧ b = true := by cases a <;> cases b <;> simp
theorem codeA_grows {call : CallR} {rec : Rec} (hr : RecGrows rec) (hg : Grows call) (hd : DrawnOk sy P call) : RecGrows (fun c tm s => codeA c P rec call tm s) := by
  intro c tm s r h
  cases c
  case skip => have h' : some (Ex.normal, tm, s) = some r := h; simp at h'; subst h'; exact Nat.le_refl _
  case label l => have h' : some (Ex.normal, tm, s) = some r := h; simp at h'; subst h'; exact Nat.le_refl _
  case exit i => have h' : some (Ex.exit i, tm, s) = some r := h; simp at h'; subst h'; exact Nat.le_refl _
  case ret => have h' : some (Ex.ret, tm, s) = some r := h; simp at h'; subst h'; exact Nat.le_refl _
  case rangeFunc => have h' : (none : Res) = some r := h; simp at h'
  case goto => have h' : (none : Res) = some r := h; simp at h'
  case refuse => have h' : (none : Res) = some r := h; simp at h'
  case scope b => exact hr b tm s r h
  case region id ops dr =>
    have h' : ob (bi dr (drawn P call ops tm s) (opsRun P call ops ops.toList tm s)) (fun r => some (Ex.normal, r.1, r.2)) = some r := h
    simp only [ob_some, Option.some.injEq] at h'
    obtain ⟨x, h1, rfl⟩ := h'
    rw [bi_eq] at h1
    split at h1
    · exact hd.grows _ _ _ _ h1
    · exact opsRun_next hg h1
  case seq x y =>
    have h' : ob (rec x tm s) (exThen (rec y)) = some r := h
    rw [ob_some] at h'
    obtain ⟨⟨e, tm1, s1⟩, h1, h2⟩ := h'
    have k1 := hr _ _ _ _ h1
    cases e
    case normal => exact Nat.le_trans k1 (hr _ _ _ _ h2)
    all_goals (simp only [exThen, Option.some.injEq] at h2; subst h2; exact k1)
  case loop b =>
    have h' : ob (rec b tm s) (exThen (rec (.loop b))) = some r := h
    rw [ob_some] at h'
    obtain ⟨⟨e, tm1, s1⟩, h1, h2⟩ := h'
    have k1 := hr _ _ _ _ h1
    cases e
    case normal => exact Nat.le_trans k1 (hr _ _ _ _ h2)
    all_goals (simp only [exThen, Option.some.injEq] at h2; subst h2; exact k1)
  case cond c x y =>
    have h' : ob (ev c tm) (fun c => ob (asB c) fun t => rec (bi t x y) tm s) = some r := h
    simp only [ob_some] at h'
    obtain ⟨_, -, _, -, h2⟩ := h'
    exact hr _ _ _ _ h2
  case block id b =>
    have h' : ob (rec b tm s) (exBlock id) = some r := h
    rw [ob_some] at h'
    obtain ⟨⟨e, tm1, s1⟩, h1, h2⟩ := h'
    have k1 := hr _ _ _ _ h1
    cases e <;> (simp only [exBlock, Option.some.injEq] at h2; subst h2; exact k1)

theorem codeA_ok {n : Nat} {call : CallR} {rec : Rec} (hr : RecOk n sy P rec) (hrg : RecGrows rec) (hcall : CallsOk sy P call) (hg : Grows call) (hd : DrawnOk sy P call) : RecOk (n + 1) sy P (fun c tm s => codeA c P rec call tm s) := by
  intro c nt ρ tm a s w r Q hds hS ht hf hfr h hQ
  cases c
  case skip => have h' : some (Ex.normal, tm, s) = some r := h; simp at h'; subst h'; exact wp_skip (hQ ρ w a (.refl hS) ht hf)
  case label l => have h' : some (Ex.normal, tm, s) = some r := h; simp at h'; subst h'; exact wp_label (hQ ρ w a (.refl hS) ht hf)
  case exit i => have h' : some (Ex.exit i, tm, s) = some r := h; simp at h'; subst h'; exact wp_exit (hQ ρ w a (.refl hS) ht hf)
  case ret => have h' : some (Ex.ret, tm, s) = some r := h; simp at h'; subst h'; exact wp_ret (hQ ρ w a (.refl hS) ht hf)
  case rangeFunc => have h' : (none : Res) = some r := h; simp at h'
  case goto => have h' : (none : Res) = some r := h; simp at h'
  case refuse => have h' : (none : Res) = some r := h; simp at h'
  case scope b =>
    refine wp_scope_straight (hr b nt ρ tm a s w r _ hds hS ht hf hfr h fun ρ' w' a' g1 g2 g3 => ?_).wp
    have := hQ ρ' w' a' g1 g2 g3
    obtain ⟨e, q⟩ := r
    cases e <;> exact this
  case region id ops dr =>
    have h' : ob (bi dr (drawn P call ops tm s) (opsRun P call ops ops.toList tm s)) (fun r => some (Ex.normal, r.1, r.2)) = some r := h
    simp only [ob_some, Option.some.injEq] at h'
    obtain ⟨x, h1, rfl⟩ := h'
    have hds' : ∀ o ∈ ops.toList, dstOk nt o = true := allL_mem.1 hds
    cases dr with
    | true => exact hd.ok ops id nt ρ tm a s w x Q hds' hS ht hf hfr h1 hQ
    | false => exact wp_region_list (opsRun_wp hcall hg ops.toList ρ tm a s w x hds' hS ht hf hfr h1 hQ)
  case seq x y =>
    have hds' : dsts nt x = true ∧ dsts nt y = true := and_true'.1 hds
    have h' : ob (rec x tm s) (exThen (rec y)) = some r := h
    rw [ob_some] at h'
    obtain ⟨⟨e, tm1, s1⟩, h1, h2⟩ := h'
    refine wp_seq (Sound.wp (n := n) ?_)
    cases e
    case normal =>
      have k2 := hrg _ _ _ _ h2
      exact hr x nt ρ tm a s w (.normal, tm1, s1) _ hds'.1 hS ht hf (hfr.sub (Nat.le_refl _) k2) h1 fun ρ' w' a' g1 g2 g3 =>
        (hr y nt ρ' tm1 a' s1 w' r Q hds'.2 g1.sat g2 g3 (g1.fresh hfr) h2 fun ρ2 w2 a2 q1 q2 q3 => hQ ρ2 w2 a2 (g1.trans q1 hfr) q2 q3).wp
    all_goals
      simp only [exThen, Option.some.injEq] at h2; subst h2
      exact hr x nt ρ tm a s w _ _ hds'.1 hS ht hf hfr h1 hQ
  case loop b =>
    have h' : ob (rec b tm s) (exThen (rec (.loop b))) = some r := h
    rw [ob_some] at h'
    obtain ⟨⟨e, tm1, s1⟩, h1, h2⟩ := h'
    cases e
    case normal =>
      have k2 := hrg _ _ _ _ h2
      exact (hr b nt ρ tm a s w (.normal, tm1, s1) _ hds hS ht hf (hfr.sub (Nat.le_refl _) k2) h1 fun ρ' w' a' g1 g2 g3 =>
        hr (.loop b) nt ρ' tm1 a' s1 w' r Q hds g1.sat g2 g3 (g1.fresh hfr) h2 fun ρ2 w2 a2 q1 q2 q3 => hQ ρ2 w2 a2 (g1.trans q1 hfr) q2 q3).wp
    all_goals
      simp only [exThen, Option.some.injEq] at h2; subst h2
      show b.wp P (Exit.then (Code.rounds P b Q n) Q) a w
      exact (hr b nt ρ tm a s w _ (Exit.then (Code.rounds P b Q n) Q) hds hS ht hf hfr h1 hQ).wp
  case cond c x y =>
    have hds' : dsts nt x = true ∧ dsts nt y = true := and_true'.1 hds
    have h' : ob (ev c tm) (fun c => ob (asB c) fun t => rec (bi t x y) tm s) = some r := h
    simp only [ob_some] at h'
    obtain ⟨cv, h1, t, h2, h3⟩ := h'
    have hb := asB_V h2 (ev_V hS.sat.glob ht h1)
    refine wp_cond hb ?_
    cases t with
    | true => exact (hr x nt ρ tm a s w r Q hds'.1 hS ht hf hfr h3 hQ).wp
    | false => exact (hr y nt ρ tm a s w r Q hds'.2 hS ht hf hfr h3 hQ).wp
  case block id b =>
    have h' : ob (rec b tm s) (exBlock id) = some r := h
    rw [ob_some] at h'
    obtain ⟨⟨e, tm1, s1⟩, h1, h2⟩ := h'
    refine wp_block (Sound.wp (n := n) ?_)
    cases e
    case normal =>
      simp only [exBlock, Option.some.injEq] at h2; subst h2
      exact hr b nt ρ tm a s w _ _ hds hS ht hf hfr h1 hQ
    case ret =>
      simp only [exBlock, Option.some.injEq] at h2; subst h2
      exact hr b nt ρ tm a s w _ _ hds hS ht hf hfr h1 hQ
    case exit i =>
      simp only [exBlock, Option.some.injEq] at h2; subst h2
      refine hr b nt ρ tm a s w (.exit i, tm1, s1) _ hds hS ht hf hfr h1 fun ρ' w' a' g1 g2 g3 => ?_
      have := hQ ρ' w' a' g1 g2 g3
      show Exit.inBlock id Q (.exit i) a' w'
      simp only [Exit.inBlock]
      simp only [bi_eq] at this
      by_cases e : i = id
      · rw [if_pos e]; simpa [e, exQ] using this
      · have e' : Nat.beq i id = false := by cases hh : Nat.beq i id <;> simp_all
        rw [if_neg e]; simpa [e', exQ] using this
end Go.Ex

namespace Go.Ex
variable {sy : Nat → Value} {ρ : Env} {P : Program}

theorem argsT_cons {a : AV} {l : List AV} {i : Nat} {t : T AV} : argsT (a :: l) i t = argsT l (i + 1) (t.set i a) := rfl
theorem argsT_V : ∀ {l : List AV} {vs : List Value} {i : Nat} {t : T AV} {g : Nat → Value}, VL sy ρ l vs → (∀ x v, t.get x = some v → V sy ρ v (g x)) → (∀ j v, vs[j]? = some v → g (i + j) = v) →
    ∀ x v, (argsT l i t).get x = some v → V sy ρ v (g x)
  | [], vs, i, t, g, hl, ht, hg, x, v, h => ht x v h
  | a :: l, vs, i, t, g, hl, ht, hg, x, v, h => by
    obtain ⟨u, r, rfl, h1, h2⟩ := hl
    rw [argsT_cons] at h
    refine argsT_V (i := i + 1) h2 (fun y z hy => ?_) (fun j z hz => ?_) x v h
    · rw [T.get_set] at hy
      by_cases e : y = i
      · subst e
        rw [if_pos rfl] at hy; simp at hy; subst hy
        rw [show g y = u from by simpa using hg 0 u rfl]; exact h1
      · rw [if_neg e] at hy; exact ht y z hy
    · rw [show i + 1 + j = i + (j + 1) from by omega]
      exact hg (j + 1) z (by simpa using hz)

def resF (a : Act) : ResultVar → Sem Value
  | .tmp t => pure (a.tmps.getD t undef)
  | .cell c t => do loadVar t (← asAddr (a.tmps.getD c undef))
theorem res1_run {tm : T AV} {a : Act} {s : St} {w : World} (hS : SatS sy ρ s w) (ht : TM sy ρ tm a) {x : ResultVar} {v : AV} (h : res1 P tm s x = some v) :
    ∃ u, (resF a x).run P w = .ok u w ∧ V sy ρ v u := by
  cases x with
  | tmp t => exact ⟨_, rfl, ht t v h⟩
  | cell c t =>
    simp only [res1, ob_some] at h
    obtain ⟨cv, h1, p, h2, h3⟩ := h
    obtain ⟨pl, e1, e2⟩ := asPtr_V h2 (ht c cv h1)
    obtain ⟨pl', u, g1, g2, g3⟩ := loadV_at hS h3
    rw [e1] at g1; simp at g1; subst g1
    refine ⟨u, ?_, g2⟩
    show (asAddr (a.tmps.getD c undef) >>= fun x => loadVar t x).run P w = _
    rw [e2]; simpa [asAddr] using g3
theorem resL_run {tm : T AV} {a : Act} {s : St} {w : World} (hS : SatS sy ρ s w) (ht : TM sy ρ tm a) : ∀ {l : List ResultVar} {r : List AV}, resL P tm s l = some r →
    ∃ us, (l.mapM (resF a)).run P w = .ok us w ∧ VL sy ρ r us
  | [], r, h => by
    have h' : some [] = some r := h
    simp at h'; subst h'
    exact ⟨[], by simp, rfl⟩
  | x :: l, r, h => by
    simp only [resL, ob_some, Option.some.injEq] at h
    obtain ⟨v, h1, rs, h2, rfl⟩ := h
    obtain ⟨u, g1, g2⟩ := res1_run hS ht h1
    obtain ⟨us, k1, k2⟩ := resL_run hS ht h2
    refine ⟨u :: us, ?_, ⟨u, us, rfl, g2, k2⟩⟩
    rw [List.mapM_cons, Sem.run_bind, g1]
    simp [k1]
theorem results_V {fn : Func} {tm : T AV} {a : Act} {s : St} {w : World} (hS : SatS sy ρ s w) (ht : TM sy ρ tm a) {l : List AV} (h : resL P tm s fn.results.toList = some l) :
    ∃ u, (results fn a.tmps).run P w = .ok u w ∧ V sy ρ (tupOf l) u := by
  obtain ⟨us, h1, h2⟩ := resL_run hS ht h
  have h3 : (results fn a.tmps).run P w = .ok (if h : us.toArray.size = 1 then us.toArray[0] else .tuple us.toArray) w := by
    show (fn.results.mapM (resF a) >>= fun (vs : Array Value) => (pure (if h : vs.size = 1 then vs[0] else .tuple vs) : Sem Value)).run P w = _
    rw [Array.mapM_eq_mapM_toList, Sem.run_bind, Sem.run_map, h1]
    simp
  rw [h3]
  refine ⟨_, rfl, ?_⟩
  unfold tupOf
  split
  · rename_i v
    obtain ⟨u, r, rfl, k1, k2⟩ := h2
    simp only [VL] at k2; subst k2
    simpa using k1
  · rename_i hne
    have hl := h2.length
    rw [dif_neg]
    · exact ⟨us.toArray, rfl, by simpa using h2⟩
    · intro e
      simp at e
      rw [e] at hl
      match l, hl with
      | [v], _ => exact hne v rfl
      | [], hl => simp at hl
      | _ :: _ :: _, hl => simp at hl

theorem callN_inv {rec : Rec} {f : FuncId} {args : List AV} {s : St} {r : AV × St} (h : callN P rec f args s = some r) :
    ∃ fn c q l, P.funcs[f]? = some fn ∧ (fn.name == "runtime.NumGoroutine") = false ∧ fn.body = some c ∧ dsts fn.ntmps c = true ∧ rec c (argsT args 0 .E) s = some q ∧ isExit q.1 = false ∧ resL P q.2.1 q.2.2 fn.results.toList = some l ∧ r = (tupOf l, q.2.2) := by
  simp only [callN, ob_some, bi_some] at h
  obtain ⟨fn, h1, h2, h3⟩ := h
  simp only [bodyS, ob_some, bi_some] at h3
  obtain ⟨c, h4, h5, q, h6, h7⟩ := h3
  unfold endS at h7
  rw [bi_eq] at h7
  split at h7
  · simp at h7
  · rename_i hx
    simp only [ob_some, Option.some.injEq] at h7
    obtain ⟨l, h8, h9⟩ := h7
    exact ⟨fn, c, q, l, h1, by simpa [enterOk] using h2, h4, h5, h6, by simpa using hx, h8, h9.symm⟩
theorem callN_ok {n : Nat} {rec : Rec} (hr : RecOk n sy P rec) : CallOk sy P (callN P rec) := by
  intro ρ f args s s' v w vs hS hl hfr h
  obtain ⟨fn, c, q, l, h1, h2, h3, h4, h5, h6, h7, h8⟩ := callN_inv h
  simp only [Prod.mk.injEq] at h8
  obtain ⟨rfl, rfl⟩ := h8
  refine calls_of_wp h1 h3 (Sound.wp (n := n) (hr c fn.ntmps ρ _ _ s w q _ h4 hS ?_ ?_ hfr h5 fun ρ' w' a' g1 g2 g3 => ?_))
  · intro x y hx
    refine argsT_V (i := 0) (g := fun x => (vs ++ Array.replicate (fn.ntmps - vs.size) undef).getD x undef) hl (fun y z hy => by rw [T.get_E] at hy; simp at hy) (fun j z hz => ?_) x y hx
    have hj : j < vs.size := by
      have := (List.getElem?_eq_some_iff.1 hz).1
      simpa using this
    have : vs[j]? = some z := by simpa using hz
    simp [Array.getD_eq_getD_getElem?, Array.getElem?_append, hj]
    simp [hj] at this
    exact this
  · exact ⟨by simp; omega, rfl⟩
  · obtain ⟨u, k1, k2⟩ := results_V g1.sat g2 h7
    obtain ⟨e, q2⟩ := q
    cases e with
    | exit i => simp [isExit] at h6
    | normal => exact ⟨g3.defers, u, k1, ρ', u, rfl, g1, k2⟩
    | ret => exact ⟨g3.defers, u, k1, ρ', u, rfl, g1, k2⟩
theorem callN_enters {rec : Rec} {f : FuncId} {args : List AV} {s : St} {r : AV × St} (h : callN P rec f args s = some r) : Enters P f := by
  obtain ⟨fn, c, q, l, h1, h2, h3, h4, h5, h6, h7, h8⟩ := callN_inv h
  exact ⟨fn, h1, h2, by simp [h3]⟩
theorem callN_grows {rec : Rec} (hr : RecGrows rec) : Grows (callN P rec) := by
  intro f args s v s' h
  obtain ⟨fn, c, q, l, h1, h2, h3, h4, h5, h6, h7, h8⟩ := callN_inv h
  simp only [Prod.mk.injEq] at h8
  rw [h8.2]
  exact hr _ _ _ _ h5

/-- what is known of the functions whose calls are told beforehand -/
structure OvOk (sy : Nat → Value) (P : Program) (ov : OV) : Prop where
  ok : ∀ f h, ov.get f = some h → ∀ (ρ : Env) (args : List AV) (s s' : St) (v : AV) (w : World) (vs : Array Value), SatS sy ρ s w → VL sy ρ args vs.toList → Fresh ρ s.next s'.next → h args s = some (v, s') →
    Calls P f vs w fun e w' => ∃ ρ' u, e = .returned u ∧ Out sy ρ s w ρ' s' w' ∧ V sy ρ' v u
  enters : ∀ f h, ov.get f = some h → Enters P f
  grows : ∀ f h, ov.get f = some h → ∀ args s v s', h args s = some (v, s') → s.next ≤ s'.next
theorem OvOk.none : OvOk sy P .E := ⟨fun f h e => by rw [T.get_E] at e; simp at e, fun f h e => by rw [T.get_E] at e; simp at e, fun f h e => by rw [T.get_E] at e; simp at e⟩
theorem callS_ok {n : Nat} {rec : Rec} {ov : OV} (ho : OvOk sy P ov) (hr : RecOk n sy P rec) : CallsOk sy P (callS P ov rec) := by
  constructor
  · intro ρ f args s s' v w vs hS hl hfr h
    unfold callS at h
    split at h
    · rename_i g hg; exact ho.ok f g hg ρ args s s' v w vs hS hl hfr h
    · exact callN_ok hr ρ f args s s' v w vs hS hl hfr h
  · intro f args s r h
    unfold callS at h
    split at h
    · rename_i g hg; exact ho.enters f g hg
    · exact callN_enters h
theorem callS_grows {rec : Rec} {ov : OV} (ho : OvOk sy P ov) (hr : RecGrows rec) : Grows (callS P ov rec) := by
  intro f args s v s' h
  unfold callS at h
  split at h
  · rename_i g hg; exact ho.grows f g hg args s v s' h
  · exact callN_grows hr f args s v s' h
theorem run_ok {ov : OV} (ho : OvOk sy P ov) (hD : ∀ call, CallsOk sy P call → Grows call → DrawnOk sy P call) : ∀ n, RecOk n sy P (run P ov n) ∧ RecGrows (run P ov n)
  | 0 => ⟨fun c nt ρ tm a s w r Q _ _ _ _ _ h => by
      have h' : (none : Res) = some r := h
      simp at h', fun c tm s r h => by
      have h' : (none : Res) = some r := h
      simp at h'⟩
  | n + 1 => by
    obtain ⟨h1, h2⟩ := run_ok ho hD n
    have k1 := callS_ok ho h1
    have k2 := callS_grows (P := P) ho h2
    have k3 := hD _ k1 k2
    exact ⟨codeA_ok h1 h2 k1 k2 k3, codeA_grows (sy := sy) h2 k2 k3⟩
theorem top_ok {ov : OV} (ho : OvOk sy P ov) (hD : ∀ call, CallsOk sy P call → Grows call → DrawnOk sy P call) {n : Nat} {f : FuncId} {args : List AV} {vs : Array Value} {s s' : St} {v : AV} {w : World} (h : top P ov n f args s = some (v, s'))
    (hS : SatS sy ρ s w) (hl : VL sy ρ args vs.toList) (hfr : Fresh ρ s.next s'.next) : Calls P f vs w fun e w' => ∃ ρ' u, e = .returned u ∧ Out sy ρ s w ρ' s' w' ∧ V sy ρ' v u :=
  callN_ok (run_ok ho hD n).1 ρ f args s s' v w vs hS hl hfr h
end Go.Ex

namespace Go.Ex
variable {sy : Nat → Value} {ρ : Env} {P : Program}

/-- less is known -/
theorem Sat.less {H H' : HV} {F : FV} {fl : Nat} {w : World} (h : Sat sy ρ H F fl w)
    (hs : ∀ i r', H' i = some r' → ∃ r, H i = some r ∧ r.fam = r'.fam ∧ r.exact = r'.exact ∧ r.sz = r'.sz ∧ (r.ty = r'.ty ∧ ∀ j c, r'.cell j = some c → r.cell j = some c)) : Sat sy ρ H' F fl w where
  rows i r' hi := by
    obtain ⟨r, h1, h2, h3, h4, hty, h5⟩ := hs i r' hi
    obtain ⟨pl, k1, k2, k3, k4⟩ := h.rows i r h1
    exact ⟨pl, k1, k2.trans h4, k3.trans h3, ⟨k4.shape, fun hfl hr => k4.free hfl (by rw [h2]; exact hr), fun e => k4.plain (h3.trans e), fun j c hc hr => k4.cells j c (h5 j c hc) (by rw [h2]; exact hr), fun x hx => by rw [← hty, ← h3, ← h4]; exact k4.typ x hx⟩⟩
  sep i j ri rj pi pj hij hi hj hpi hpj hb := by
    obtain ⟨r, h1, h2, h3, h4, hty, h5⟩ := hs i ri hi
    obtain ⟨q, g1, g2, g3, g4, g5⟩ := hs j rj hj
    have := h.sep i j r q pi pj hij h1 g1 hpi hpj hb
    rw [← h2, ← g2]; exact this
  fams i r' hi := by
    obtain ⟨r, h1, h2, h3, h4, hty, h5⟩ := hs i r' hi
    rw [← h2]; exact h.fams i r h1
  ends i r' hi := by
    obtain ⟨r, h1, h2, h3, h4, hty, h5⟩ := hs i r' hi
    rw [← h2]; exact fun hn l hl e he j c hc => h.ends i r h1 hn l hl e he j c (h5 j c hc)
  pmem := h.pmem
  exfam i r' hi := by
    obtain ⟨r, h1, h2, h3, h4, hty, h5⟩ := hs i r' hi
    rw [← h2, ← h3]; exact h.exfam i r h1
  glob := h.glob

/-- rows beside others -/
def join (X H : HV) : HV := fun i => match X i with
  | some r => some r
  | none => H i
theorem join_l {X H : HV} {i : Nat} {r : VRow} (h : X i = some r) : join X H i = some r := by simp [join, h]
theorem join_r {X H : HV} {i : Nat} (h : X i = none) : join X H i = H i := by simp [join, h]
/-- what an operation leaves alone -/
theorem Sat.frame {X : HV} {A A' : St} {w w' : World} {ρ' : Env} (h : Sat sy ρ (join X A.hv) A.fams.get A.floor w) (hX : ∀ i r, X i = some r → r.fam = 0 ∧ A.heap.get i = none ∧ A.floor ≤ i)
    (ho : Out sy ρ A w ρ' A' w') (hf : Fresh ρ A.next A'.next) : Sat sy ρ' (join X A'.hv) A'.fams.get A'.floor w' := by
  have hown : ∀ i r pl, X i = some r → ρ i = some pl → ¬ Owned ρ A pl.blk := by
    rintro i r pl h1 h2 ⟨j, row, pj, g1, g2, g3, g4⟩
    have hij : i ≠ j := by rintro rfl; rw [(hX i r h1).2.1] at g2; simp at g2
    have hXj : X j = none := by
      cases hq : X j with
      | none => rfl
      | some q => rw [(hX j q hq).2.1] at g2; simp at g2
    have := h.sep i j r row.v pl pj hij (join_l h1) (by rw [join_r hXj]; exact hv_some.2 ⟨row, g2, rfl⟩) h2 g3 g4.symm
    exact (this.resolve_left fun q => absurd g1 (Nat.not_le_of_lt q.2.1)).2.2.2.1 (hX i r h1).1
  have hrow : ∀ i r, X i = some r → ∃ pl, ρ i = some pl ∧ ρ' i = some pl ∧ pl.blk < w.heap.size ∧ w'.heap[pl.blk]? = w.heap[pl.blk]? ∧ pl.sz = r.sz ∧ pl.exact = r.exact ∧ RowAt sy ρ A.fams.get A.floor w i r pl := by
    intro i r h1
    obtain ⟨pl, k1, k2, k3, k4⟩ := h.rows i r (join_l h1)
    obtain ⟨el, q⟩ := k4.shape
    have hlt := lt_of_shape q
    exact ⟨pl, k1, ho.fr.mono i pl k1, hlt, ho.fr.old _ hlt (hown i r pl h1 k1), k2, k3, k4⟩
  have hmix : ∀ i j ri rj pi pj, X i = some ri → X j = none → A'.hv j = some rj → ρ' i = some pi → ρ' j = some pj → pi.blk = pj.blk → False := by
    intro i j ri rj pi pj hi hj hrj hpi hpj hb
    obtain ⟨pl, k1, k2, k3, k4, k5, k6, k7⟩ := hrow i ri hi
    rw [hpi] at k2; simp at k2; subst k2
    obtain ⟨row', g1, g2⟩ := hv_some.1 hrj
    cases hq : ρ j with
    | some q =>
      have := ho.fr.mono j q hq
      rw [hpj] at this; simp at this; subst this
      cases hr : A.heap.get j with
      | some row =>
        have hij : i ≠ j := by rintro rfl; rw [hi] at hj; simp at hj
        exact ((h.sep i j ri row.v pi pj hij (join_l hi) (by rw [join_r hj]; exact hv_some.2 ⟨row, hr, rfl⟩) k1 hq hb).resolve_left fun q => absurd (hX i ri hi).2.2 (Nat.not_le_of_lt q.1)).2.2.2.1 (hX i ri hi).1
      | none =>
        rcases Nat.lt_or_ge j A.next with g | g
        · rw [ho.ext.dom j hr (.inl g)] at g1; simp at g1
        · rcases Nat.lt_or_ge j A'.next with g' | g'
          · rw [hf j g g'] at hq; simp at hq
          · rw [ho.ext.dom j hr (.inr g')] at g1; simp at g1
    | none =>
      rcases (ho.fr.newid j pj hpj hq).2 with g | g
      · omega
      · exact hown i ri pi hi k1 (hb ▸ g)
  refine ⟨fun i r hi => ?_, fun i j ri rj pi pj hij hi hj hpi hpj hb => ?_, fun i r hi hn => ?_, fun i r hi hn => ?_, ho.sat.sat.pmem, fun i r hi he => ?_, ho.sat.sat.glob⟩
  · cases hx : X i with
    | some q =>
      rw [join_l hx] at hi; simp at hi; subst hi
      obtain ⟨pl, k1, k2, k3, k4, k5, k6, k7⟩ := hrow i q hx
      obtain ⟨e1, e2, e3⟩ := same_block k4
      refine ⟨pl, k2, k5, k6, ⟨by rw [e1]; exact k7.shape, fun hfl _ o ho' => by rw [e3]; exact k7.free (by rw [← ho.ext.floor]; exact hfl) (.inl (hX i q hx).1) o ho', fun he o => by rw [e3]; exact k7.plain he o, fun j c hc _ => ?_, fun x hx => k7.typ x (by rw [← e1]; exact hx)⟩⟩
      obtain ⟨v, q1, q2, q3⟩ := k7.cells j c hc (.inl (hX i q hx).1)
      exact ⟨v, by rw [e2]; exact q1, q2.mono ho.fr.mono, q3⟩
    | none =>
      rw [join_r hx] at hi
      exact ho.sat.sat.rows i r hi
  · cases hx : X i with
    | some q =>
      rw [join_l hx] at hi; simp at hi; subst hi
      cases hy : X j with
      | some q2 =>
        rw [join_l hy] at hj; simp at hj; subst hj
        obtain ⟨pl, k1, k2, -⟩ := hrow i q hx
        obtain ⟨pl2, g1, g2, -⟩ := hrow j q2 hy
        rw [hpi] at k2; simp at k2; subst k2
        rw [hpj] at g2; simp at g2; subst g2
        exact absurd (hX i q hx).1 ((h.sep i j q q2 pi pj hij (join_l hx) (join_l hy) k1 g1 hb).resolve_left fun q' => absurd (hX i q hx).2.2 (Nat.not_le_of_lt q'.1)).2.2.2.1
      | none =>
        rw [join_r hy] at hj
        exact (hmix i j q rj pi pj hx hy hj hpi hpj hb).elim
    | none =>
      rw [join_r hx] at hi
      cases hy : X j with
      | some q2 =>
        rw [join_l hy] at hj; simp at hj; subst hj
        exact (hmix j i q2 ri pj pi hy hx hi hpj hpi hb.symm).elim
      | none =>
        rw [join_r hy] at hj
        exact ho.sat.sat.sep i j ri rj pi pj hij hi hj hpi hpj hb
  · cases hx : X i with
    | some q =>
      rw [join_l hx] at hi; simp at hi; subst hi
      exact absurd (hX i q hx).1 hn
    | none => rw [join_r hx] at hi; exact ho.sat.sat.fams i r hi hn
  · cases hx : X i with
    | some q =>
      rw [join_l hx] at hi; simp at hi; subst hi
      exact absurd (hX i q hx).1 hn
    | none => rw [join_r hx] at hi; exact ho.sat.sat.ends i r hi hn
  · cases hx : X i with
    | some q =>
      rw [join_l hx] at hi; simp at hi; subst hi
      exact (hX i q hx).1
    | none => rw [join_r hx] at hi; exact ho.sat.sat.exfam i r hi he
end Go.Ex

namespace Go.Ex
variable {sy : Nat → Value} {ρ : Env} {P : Program}

/-! an operation looks at its operands alone -/
def Same1 (tm tm' : T AV) (x : Operand) : Prop := ∀ t, x = .tmp t → tm.get t = tm'.get t
theorem ev_tm {tm tm' : T AV} {x : Operand} (h : Same1 tm tm' x) : ev x tm = ev x tm' := by
  cases x with
  | tmp t => exact h t rfl
  | const c => rfl
  | global g => rfl
  | func f => rfl
theorem evs_tm {tm tm' : T AV} : ∀ {l : List Operand}, (∀ x ∈ l, Same1 tm tm' x) → evs l tm = evs l tm'
  | [], _ => rfl
  | x :: l, h => by
    show ob (ev x tm) (fun v => ob (evs l tm) fun r => some (v :: r)) = ob (ev x tm') (fun v => ob (evs l tm') fun r => some (v :: r))
    rw [ev_tm (h x (List.mem_cons_self ..)), evs_tm fun y hy => h y (List.mem_cons_of_mem _ hy)]
theorem fillL_tm {tm tm' : T AV} {place : Nat → Option (Nat × Nat)} : ∀ {ps : List (Nat × Operand)} {l : List AV}, (∀ p ∈ ps, Same1 tm tm' p.2) → fillL place tm ps l = fillL place tm' ps l
  | [], _, _ => rfl
  | p :: r, l, h => by
    have ih := fun l => fillL_tm (place := place) (ps := r) (l := l) fun y hy => h y (List.mem_cons_of_mem _ hy)
    show ob (place p.1) (fun q => ob (ev p.2 tm) fun v => ob (cells? v) fun c => bi (Nat.beq (lenL c) q.2) (ob (putL q.1 c l) (fillL place tm r)) none) =
      ob (place p.1) (fun q => ob (ev p.2 tm') fun v => ob (cells? v) fun c => bi (Nat.beq (lenL c) q.2) (ob (putL q.1 c l) (fillL place tm' r)) none)
    rw [ev_tm (h p (List.mem_cons_self ..)), show fillL place tm r = fillL place tm' r from funext ih]
theorem fillS_tm {tm tm' : T AV} {z : Nat} : ∀ {ps : List (Nat × Operand)} {l : List (List AV)}, (∀ p ∈ ps, Same1 tm tm' p.2) → fillS z tm ps l = fillS z tm' ps l
  | [], _, _ => rfl
  | p :: r, l, h => by
    have ih := fun l => fillS_tm (z := z) (ps := r) (l := l) fun y hy => h y (List.mem_cons_of_mem _ hy)
    show ob (ev p.2 tm) (fun v => ob (cells? v) fun c => bi (Nat.beq (lenL c) z) (ob (setL l p.1 c) (fillS z tm r)) none) =
      ob (ev p.2 tm') (fun v => ob (cells? v) fun c => bi (Nat.beq (lenL c) z) (ob (setL l p.1 c) (fillS z tm' r)) none)
    rw [ev_tm (h p (List.mem_cons_self ..)), show fillS z tm r = fillS z tm' r from funext ih]
theorem evO_tm {tm tm' : T AV} {x : Option Operand} (h : ∀ y, x = some y → Same1 tm tm' y) : evO x tm = evO x tm' := by
  cases x with
  | none => rfl
  | some x =>
    show ob (ev x tm) _ = ob (ev x tm') _
    rw [ev_tm (h x rfl)]
/-- two tables that serve an operation alike -/
def KSame (P : Program) (tm tm' : T AV) : K → Prop
  | .pure f => f P tm = f P tm'
  | .read f => ∀ s, f P tm s = f P tm' s
  | .new f => ∀ n, f P tm n = f P tm' n
  | .eff f => ∀ call s, f call P tm s = f call P tm' s
  | .bad => True
theorem buildD_tm {tm tm' : T AV} {ps : List (Nat × Operand)} {z : List AV} {d : TypeDesc} (h : ∀ p ∈ ps, Same1 tm tm' p.2) : buildD P ps tm z d = buildD P ps tm' z d := by
  unfold buildD
  split
  · simp only [fillL_tm h]
  · simp only [fillL_tm h]
  · rfl
theorem kind_tm {op : Op} {tm tm' : T AV} (h : ∀ x ∈ op.operands, Same1 tm tm' x) : KSame P tm tm' (kind op P) := by
  cases op
  case move x => exact ev_tm (h x (by simp [Op.operands]))
  case assign x => exact ev_tm (h x (by simp [Op.operands]))
  case pick c x y =>
    have h1 := ev_tm (h c (by simp [Op.operands]))
    have h2 := ev_tm (h x (by simp [Op.operands]))
    have h3 := ev_tm (h y (by simp [Op.operands]))
    show aPick c x y P tm = aPick c x y P tm'
    simp only [aPick, pickB, h1, h2, h3]
  case alloc e => exact fun n => rfl
  case box e x =>
    intro n
    show aBox e x P tm n = aBox e x P tm' n
    simp only [aBox, ev_tm (h x (by simp [Op.operands]))]
  case build t ps =>
    have h1 : ∀ p ∈ ps.toList, Same1 tm tm' p.2 := fun p hp => h p.2 (by simp [Op.operands]; exact ⟨p.1, by simpa using hp⟩)
    show aBuild t ps P tm = aBuild t ps P tm'
    simp only [aBuild]
    have : ∀ z, buildD P ps.toList tm z = buildD P ps.toList tm' z := fun z => funext fun d => buildD_tm h1
    simp only [this]
  case buildSlice t n ps =>
    have h1 : ∀ p ∈ ps.toList, Same1 tm tm' p.2 := fun p hp => h p.2 (by simp [Op.operands]; exact ⟨p.1, by simpa using hp⟩)
    intro m
    show aBuildSlice t n ps P tm m = aBuildSlice t n ps P tm' m
    simp only [aBuildSlice, fillS_tm h1]
  case load t x =>
    intro s
    show rLoad t x P tm s = rLoad t x P tm' s
    simp only [rLoad, ev_tm (h x (by simp [Op.operands]))]
  case store t x y =>
    intro call s
    show aStore t x y call P tm s = aStore t x y call P tm' s
    simp only [aStore, ev_tm (h x (by simp [Op.operands])), ev_tm (h y (by simp [Op.operands]))]
  case nilCheck x =>
    show aNilCheck x P tm = aNilCheck x P tm'
    simp only [aNilCheck, ev_tm (h x (by simp [Op.operands]))]
  case binOp o t x y u =>
    have h1 := ev_tm (h x (by simp [Op.operands]))
    have h2 := ev_tm (h y (by simp [Op.operands]))
    show KSame P tm tm' (kBin o t x y u P)
    unfold kBin
    split
    · rw [bi_eq]
      split
      · intro s; simp only [rEq, h1, h2]
      · show aBin o t x y u P tm = aBin o t x y u P tm'
        simp only [aBin, h1, h2]
    · trivial
  case unOp o t x =>
    show aUn o t x P tm = aUn o t x P tm'
    simp only [aUn, ev_tm (h x (by simp [Op.operands]))]
  case convert s d x =>
    have h1 := ev_tm (h x (by simp [Op.operands]))
    show KSame P tm tm' (kConvert s d x P)
    unfold kConvert
    split
    · unfold kConv
      split
      · show cvInt _ x P tm = cvInt _ x P tm'
        simp only [cvInt, h1]
      · show cvStr x P tm = cvStr x P tm'
        simp only [cvStr, h1]
      · intro s; simp only [rOfBytes, h1]
      · intro n; simp only [cvToBytes, h1]
      · show cvFlo _ x P tm = cvFlo _ x P tm'
        simp only [cvFlo, h1]
      · trivial
    · trivial
  case makeInterface t x =>
    show aIface t x P tm = aIface t x P tm'
    simp only [aIface, ev_tm (h x (by simp [Op.operands]))]
  case makeFunc f a b =>
    show aFunc f a b P tm = aFunc f a b P tm'
    have h1 : ∀ x ∈ a.toList, Same1 tm tm' x := fun x hx => h x (by simp [Op.operands]; exact .inl (by simpa using hx))
    have h2 : ∀ x ∈ b.toList, Same1 tm tm' x := fun x hx => h x (by simp [Op.operands]; exact .inr (by simpa using hx))
    simp only [aFunc, evs_tm h1, evs_tm h2]
  case makeSlice t l c =>
    intro n
    show aMakeSlice t l c P tm n = aMakeSlice t l c P tm' n
    simp only [aMakeSlice, ev_tm (h l (by simp [Op.operands])), ev_tm (h c (by simp [Op.operands]))]
  case slice t x lo hi mx =>
    show aSlice t x lo hi mx P tm = aSlice t x lo hi mx P tm'
    unfold aSlice
    split
    · rfl
    · simp only [aSlice0, ev_tm (h x (by simp [Op.operands])), evO_tm (x := lo) fun y hy => h y (by simp [Op.operands, hy]), evO_tm (x := hi) fun y hy => h y (by simp [Op.operands, hy])]
  case fieldAddr t x f =>
    show aFieldAddr t x f P tm = aFieldAddr t x f P tm'
    simp only [aFieldAddr, ev_tm (h x (by simp [Op.operands]))]
  case field t x f =>
    show aField t x f P tm = aField t x f P tm'
    simp only [aField, ev_tm (h x (by simp [Op.operands]))]
  case indexAddr t x i =>
    show aIndexAddr t x i P tm = aIndexAddr t x i P tm'
    simp only [aIndexAddr, ev_tm (h x (by simp [Op.operands])), ev_tm (h i (by simp [Op.operands]))]
  case index t x i =>
    show aIndex t x i P tm = aIndex t x i P tm'
    simp only [aIndex, ev_tm (h x (by simp [Op.operands])), ev_tm (h i (by simp [Op.operands]))]
  case typeAssert x t u ok =>
    show aAssert x t u ok P tm = aAssert x t u ok P tm'
    simp only [aAssert, ev_tm (h x (by simp [Op.operands]))]
  case extract t i =>
    show aExtract t i P tm = aExtract t i P tm'
    simp only [aExtract, ev_tm (h t (by simp [Op.operands]))]
  case call c =>
    have hop : ∀ x ∈ c.operands, Same1 tm tm' x := h
    show KSame P tm tm' (kCall c)
    unfold kCall
    split
    · rename_i b hb
      have ha : ∀ x ∈ c.args.toList, Same1 tm tm' x := fun x hx => hop x (by simp [Call.operands, hb]; try simpa using hx)
      unfold kBuiltin
      split
      all_goals try trivial
      all_goals first
        | (unfold ops1
           split
           · rename_i x hx
             have e1 := ev_tm (ha x (by simp [hx]))
             show bLen x _ P tm = bLen x _ P tm'
             simp only [bLen, e1]
           · trivial)
        | (unfold ops2
           split
           · rename_i x y hx
             have e1 := ev_tm (ha x (by simp [hx]))
             have e2 := ev_tm (ha y (by simp [hx]))
             first
               | (show bTwo _ x y P tm = bTwo _ x y P tm'
                  simp only [bTwo, e1, e2])
               | (intro call s
                  first
                    | (show bApp x y _ call P tm s = bApp x y _ call P tm' s
                       simp only [bApp, e1, e2])
                    | (show bCopy x y _ call P tm s = bCopy x y _ call P tm' s
                       simp only [bCopy, e1, e2]))
           · trivial)
    · rename_i f hf
      intro call s
      have ha : ∀ x ∈ c.args.toList, Same1 tm tm' x := fun x hx => hop x (by simp [Call.operands, hf]; try exact .inr (by simpa using hx))
      have h1 := ev_tm (hop f (by simp [Call.operands, hf]))
      simp only [aCallV, evs_tm ha, h1]
    · trivial
  all_goals trivial
end Go.Ex

namespace Go.Ex
variable {sy : Nat → Value} {ρ : Env} {P : Program}

theorem or_true' {a b : Bool} : Bool.or a b = true ↔ a = true ∨ b = true := by cases a <;> cases b <;> simp
theorem anyL_mem {α : Type} {f : α → Bool} : ∀ {l : List α}, anyL f l = true ↔ ∃ x ∈ l, f x = true
  | [] => by simp; rfl
  | x :: l => by
    show (f x || anyL f l) = true ↔ _
    simp [anyL_mem (l := l)]
theorem idxL_get {α : Type} : ∀ (l : List α) (n i : Nat), (idxL l n)[i]? = (l[i]?).map fun x => (n + i, x)
  | [], n, i => by show ([] : List (Nat × α))[i]? = _; simp
  | x :: l, n, i => by
    show ((n, x) :: idxL l (n + 1))[i]? = _
    cases i with
    | zero => simp
    | succ i =>
      simp only [List.getElem?_cons_succ]
      rw [idxL_get]
      congr 1
      funext x
      rw [show n + 1 + i = n + (i + 1) from by omega]

theorem maskE_bit {mixed : Bool} {all : List Edge} {acc : List Nat} {j : Nat} : ∀ {es : List Edge}, (maskE mixed all acc es).testBit j = true ↔ ∃ e ∈ es, usesE mixed all e = true ∧ (j = e.on ∨ ∃ m, acc[e.on]? = some m ∧ m.testBit j = true)
  | [] => by
    show Nat.testBit 0 j = true ↔ _
    simp
  | e :: l => by
    have ih := maskE_bit (mixed := mixed) (all := all) (acc := acc) (j := j) (es := l)
    show (bi (usesE mixed all e) (Nat.lor (maskE mixed all acc l) (Nat.lor (Nat.shiftLeft 1 e.on) (Option.rec (motive := fun _ => Nat) 0 (fun x => x) (nth acc e.on)))) (maskE mixed all acc l)).testBit j = true ↔ _
    rw [bi_eq]
    have key : (Nat.lor (maskE mixed all acc l) (Nat.lor (Nat.shiftLeft 1 e.on) (Option.rec (motive := fun _ => Nat) 0 (fun x => x) (nth acc e.on)))).testBit j = true ↔
        (maskE mixed all acc l).testBit j = true ∨ (j = e.on ∨ ∃ m, acc[e.on]? = some m ∧ m.testBit j = true) := by
      show ((maskE mixed all acc l) ||| ((1 <<< e.on) ||| (Option.rec (motive := fun _ => Nat) 0 (fun x => x) (nth acc e.on)))).testBit j = true ↔ _
      rw [Nat.testBit_or, Nat.testBit_or, nth_eq]
      have h1 : (1 <<< e.on).testBit j = true ↔ j = e.on := by
        rw [Nat.one_shiftLeft, Nat.testBit_two_pow]
        simp [eq_comm]
      cases hq : acc[e.on]? with
      | none => rw [Bool.or_eq_true, Bool.or_eq_true, h1]; simp
      | some m => rw [Bool.or_eq_true, Bool.or_eq_true, h1]; simp
    split
    · rename_i hu
      rw [key, ih]
      simp only [List.mem_cons, exists_eq_or_imp, hu, true_and]
      exact or_comm
    · rename_i hu
      rw [ih]
      simp [hu]
theorem masks_get {mixed : Bool} : ∀ {l : List Oper} {acc M : List Nat}, masks mixed l acc = M → M.length = acc.length + l.length ∧ (∀ i, i < acc.length → M[i]? = acc[i]?) ∧
    ∀ i o, l[i]? = some o → M[acc.length + i]? = some (maskE mixed o.after.toList (M.take (acc.length + i)) o.after.toList)
  | [], acc, M, h => by
    have h' : acc = M := h
    subst h'
    exact ⟨rfl, fun _ _ => rfl, fun i o h => by simp at h⟩
  | o :: l, acc, M, h => by
    have h' : masks mixed l (app acc [maskE mixed o.after.toList acc o.after.toList]) = M := h
    rw [app_eq] at h'
    obtain ⟨h1, h2, h3⟩ := masks_get h'
    simp only [List.length_append, List.length_cons, List.length_nil] at h1 h2 h3
    have hacc : ∀ i, i < acc.length → M[i]? = acc[i]? := fun i hi => by rw [h2 i (by omega), List.getElem?_append_left hi]
    refine ⟨by simp; omega, hacc, fun i x hx => ?_⟩
    cases i with
    | zero =>
      simp at hx; subst hx
      have e : M.take acc.length = acc := by
        apply List.ext_getElem?
        intro k
        rw [List.getElem?_take]
        split
        · rename_i hk; exact hacc k hk
        · rename_i hk; simp; omega
      rw [Nat.add_zero, e, h2 _ (by omega)]
      simp
    | succ i =>
      have := h3 i x (by simpa using hx)
      rw [show acc.length + (i + 1) = acc.length + (0 + 1) + i from by omega]
      exact this
end Go.Ex

namespace Go.Ex
variable {sy : Nat → Value} {ρ : Env} {P : Program}

theorem edgeM_bit {m : Region.Mode} {j : Nat} : ∀ {es : List Edge}, (edgeM m es).testBit j = true ↔ ∃ e ∈ es, Region.binds m e = true ∧ j = e.on
  | [] => by
    show Nat.testBit 0 j = true ↔ _
    simp
  | e :: l => by
    have ih := edgeM_bit (m := m) (j := j) (es := l)
    show (bi (Region.binds m e) (Nat.lor (edgeM m l) (Nat.shiftLeft 1 e.on)) (edgeM m l)).testBit j = true ↔ _
    rw [bi_eq]
    have key : (Nat.lor (edgeM m l) (Nat.shiftLeft 1 e.on)).testBit j = true ↔ (edgeM m l).testBit j = true ∨ j = e.on := by
      show ((edgeM m l) ||| (1 <<< e.on)).testBit j = true ↔ _
      rw [Nat.testBit_or, Nat.one_shiftLeft, Nat.testBit_two_pow, Bool.or_eq_true, decide_eq_true_eq]
      exact or_congr Iff.rfl eq_comm
    split
    · rename_i hb
      rw [key, ih]
      simp only [List.mem_cons, exists_eq_or_imp, hb, true_and]
      exact or_comm
    · rename_i hb
      rw [ih]; simp [hb]
theorem land_sub {a d : Nat} (h : Nat.beq (Nat.land a d) a = true) (j : Nat) (hj : a.testBit j = true) : d.testBit j = true := by
  have h' : a &&& d = a := by simpa using h
  have : (a &&& d).testBit j = true := by rw [h']; exact hj
  rw [Nat.testBit_and] at this
  simp at this; exact this.2
/-- a pass stays within what is closed -/
theorem pass_sub {m : Region.Mode} {S : Nat → Prop} : ∀ {l : List Oper} {i d : Nat}, (∀ k o, l[k]? = some o → (∀ e ∈ o.after.toList, Region.binds m e = true → S e.on) → S (i + k)) → (∀ j, d.testBit j = true → S j) →
    ∀ j, (pass m l i d).testBit j = true → S j
  | [], i, d, _, hd, j, h => hd j h
  | o :: l, i, d, hS, hd, j, h => by
    have h' : (pass m l (i + 1) (bi (Nat.beq (Nat.land (edgeM m o.after.toList) d) (edgeM m o.after.toList)) (Nat.lor d (Nat.shiftLeft 1 i)) d)).testBit j = true := h
    refine pass_sub (i := i + 1) (fun k x hk hx => ?_) (fun j hj => ?_) j h'
    · rw [show i + 1 + k = i + (k + 1) from by omega]
      exact hS (k + 1) x (by simpa using hk) hx
    · rw [bi_eq] at hj
      split at hj
      · rename_i hb
        have hj' : (d ||| (1 <<< i)).testBit j = true := hj
        rw [Nat.testBit_or, Nat.one_shiftLeft, Nat.testBit_two_pow, Bool.or_eq_true] at hj'
        rcases hj' with q | q
        · exact hd j q
        · have : i = j := by simpa using q
          subst this
          exact hS 0 o (by simp) fun e he hbe => hd _ (land_sub hb _ (edgeM_bit.2 ⟨e, he, hbe, rfl⟩))
      · exact hd j hj
theorem passes_sub {m : Region.Mode} {S : Nat → Prop} {l : List Oper} {full : Nat} (hS : ∀ k o, l[k]? = some o → (∀ e ∈ o.after.toList, Region.binds m e = true → S e.on) → S k) : ∀ {n d : Nat}, (∀ j, d.testBit j = true → S j) →
    passes m l full n d = true → ∀ j, full.testBit j = true → S j
  | 0, d, _, h, j, _ => by
    have h' : false = true := h
    simp at h'
  | n + 1, d, hd, h, j, hj => by
    have h' : bi (Nat.beq (pass m l 0 d) full) true (passes m l full n (pass m l 0 d)) = true := h
    have hp : ∀ j, (pass m l 0 d).testBit j = true → S j := pass_sub (i := 0) (fun k o hk ho => by rw [Nat.zero_add]; exact hS k o hk ho) hd
    rw [bi_eq] at h'
    split at h'
    · rename_i hb
      have : pass m l 0 d = full := by simpa using hb
      exact hp j (by rw [this]; exact hj)
    · exact passes_sub hS hp h' j hj
theorem comes_sub {m : Region.Mode} {S : Nat → Prop} {l : List Oper} (h : comes l m = true) (hS : ∀ k o, l[k]? = some o → (∀ e ∈ o.after.toList, Region.binds m e = true → S e.on) → S k) (j : Nat) (hj : j < l.length) : S j := by
  refine passes_sub hS (fun j hj => ?_) h j ?_
  · simp at hj
  · show ((1 <<< lenL l) - 1).testBit j = true
    rw [Nat.one_shiftLeft, lenL_eq, Nat.testBit_two_pow_sub_one]
    simpa using hj

/-- the modes in which a region may be listed -/
def ModeOk (mixed : Bool) (ops : Array Oper) (m : Region.Mode) : Prop :=
  (m = .any ∧ (mixed = true ∨ ∀ o ∈ ops.toList, ∀ e ∈ o.after.toList, Region.binds .any e = true)) ∨ (mixed = false ∧ (m = .text ∨ m = .gc))
theorem binds_any {m : Region.Mode} {e : Edge} (h : Region.binds .any e = true) : Region.binds m e = true := by
  unfold Region.binds at *
  split at h
  · simp at h
  · simp at h
  · rfl
theorem usesE_binds {mixed : Bool} {ops : Array Oper} {m : Region.Mode} (hm : ModeOk mixed ops m) {o : Oper} (ho : o ∈ ops.toList) {e : Edge} (he : e ∈ o.after.toList) (h : usesE mixed o.after.toList e = true) :
    ∃ x ∈ o.after.toList, Region.binds m x = true ∧ x.on = e.on := by
  have h' : Bool.or (Region.binds .any e) (Bool.and mixed.not (Bool.and (anyL (fun x => (Nat.beq x.on e.on).and (Region.binds .text x)) o.after.toList) (anyL (fun x => (Nat.beq x.on e.on).and (Region.binds .gc x)) o.after.toList))) = true := h
  rw [or_true'] at h'
  rcases h' with h1 | h1
  · exact ⟨e, he, binds_any h1, rfl⟩
  · rw [and_true', and_true', anyL_mem, anyL_mem] at h1
    obtain ⟨h2, ⟨x, x1, x2⟩, ⟨y, y1, y2⟩⟩ := h1
    rw [and_true'] at x2 y2
    have hmx : mixed = false := by simpa using h2
    rcases hm with ⟨rfl, q⟩ | ⟨-, rfl | rfl⟩
    · rcases q with q | q
      · rw [hmx] at q; simp at q
      · exact ⟨e, he, q o ho e he, rfl⟩
    · exact ⟨x, x1, x2.2, by simpa using x2.1⟩
    · exact ⟨y, y1, y2.2, by simpa using y2.1⟩
theorem modesOk_comes {mixed : Bool} {ops : Array Oper} (h : modesOk mixed ops.toList = true) (t : Nat) :
    ∃ m t', Region.schedule mixed ops t = Region.linearise m ops t' ∧ ModeOk mixed ops m ∧ comes ops.toList m = true := by
  have hdep : Region.departs ops = leaves ops.toList := by
    unfold Region.departs leaves
    rw [anyL_eq, ← Array.any_toList]
    congr 1
    funext o
    rw [anyL_eq, ← Array.any_toList]
  unfold modesOk at h
  rw [bi_eq] at h
  unfold Region.schedule
  rw [hdep]
  split at h
  · rename_i hb
    have hb' : (mixed || !leaves ops.toList) = true := hb
    rw [if_pos hb']
    refine ⟨.any, t, rfl, .inl ⟨rfl, ?_⟩, h⟩
    rw [Bool.or_eq_true] at hb'
    rcases hb' with q | q
    · exact .inl q
    · refine .inr fun o ho e he => ?_
      cases hbb : Region.binds .any e with
      | true => rfl
      | false =>
        have : leaves ops.toList = true := anyL_mem.2 ⟨o, ho, anyL_mem.2 ⟨e, he, by simp [hbb]⟩⟩
        rw [this] at q; simp at q
  · rename_i hb
    have hb' : ¬ (mixed || !leaves ops.toList) = true := hb
    rw [if_neg hb']
    rw [and_true'] at h
    have hmx : mixed = false := by cases mixed <;> simp at hb' ⊢
    split
    · exact ⟨.text, t / 2, rfl, .inr ⟨hmx, .inl rfl⟩, h.1⟩
    · exact ⟨.gc, t / 2, rfl, .inr ⟨hmx, .inr rfl⟩, h.2⟩
end Go.Ex

namespace Go.Ex
variable {sy : Nat → Value} {ρ : Env} {P : Program}

/-- a region, by what holds of each set of operations that may be done -/
theorem wpAny_inv {m : Region.Mode} {ops : Array Oper} {Q : Exit → Act → World → Prop} (B : Nat → Nat → Prop)
    (hB : ∀ i o, ops[i]? = some o → ∀ D : Nat → Prop, (∀ k, D k → ∀ j, B k j → D j) → (∀ e ∈ o.after.toList, Region.binds m e = true → D e.on) → ∀ j, B i j → D j)
    (hcomes : ∀ S : Nat → Prop, (∀ k o, ops[k]? = some o → (∀ e ∈ o.after.toList, Region.binds m e = true → S e.on) → S k) → ∀ j, j < ops.size → S j)
    (Inv : (Nat → Prop) → Act → World → Prop)
    (hstep : ∀ (D : Nat → Prop) i o a w K, ops[i]? = some o → (∀ k, D k → k < ops.size) → (∀ k, D k → ∀ j, B k j → D j) → (∀ j, B i j → D j) → ¬ D i → Inv D a w →
      (∀ D' a' w', (∀ k, D' k ↔ D k ∨ k = i) → Inv D' a' w' → K a' w') → wpOp P ops Q i K a w)
    (hend : ∀ (D : Nat → Prop) a w, (∀ j, D j ↔ j < ops.size) → Inv D a w → Q .normal a w) :
    ∀ (fuel : Nat) (listed : Array Bool) (a : Act) (w : World), listed.size = ops.size → listed.toList.count false ≤ fuel → (∀ k, listed.getD k false = true → ∀ j, B k j → listed.getD j false = true) →
      Inv (fun k => listed.getD k false = true) a w → wpAny P m ops Q fuel listed a w := by
  have hlt : ∀ listed : Array Bool, listed.size = ops.size → ∀ k, listed.getD k false = true → k < ops.size := by
    intro listed hl k hk
    rcases Nat.lt_or_ge k listed.size with h | h
    · omega
    · simp [Array.getElem?_eq_none h] at hk
  have hready : ∀ listed : Array Bool, listed.size = ops.size → Region.ready m ops listed = [] → ∀ j, j < ops.size → listed.getD j false = true := by
    intro listed hl hr
    refine hcomes _ fun k o ho he => ?_
    have hk : k < ops.size := (Array.getElem?_eq_some_iff.1 ho).1
    cases hd : listed.getD k false with
    | true => rfl
    | false =>
      have hmem : k ∈ Region.ready m ops listed := mem_ready.2 ⟨by
        have hk' : k < listed.size := by omega
        simpa [Array.getD_eq_getD_getElem?, hk'] using hd, o, ho, fun e hem hb => he e (by simpa using hem) hb⟩
      rw [hr] at hmem; simp at hmem
  intro fuel
  induction fuel with
  | zero =>
    intro listed a w hl hc hcl hI
    have hall : ∀ j, j < ops.size → listed.getD j false = true := by
      intro j hj
      have hj' : j < listed.size := by omega
      have : false ∉ listed.toList := List.count_eq_zero.1 (by omega)
      cases hd : listed[j] with
      | true => simp [Array.getD_eq_getD_getElem?, hj', hd]
      | false => exact absurd (by rw [← hd]; simp) this
    refine ⟨?_, hend _ a w (fun j => ⟨hlt listed hl j, hall j⟩) hI⟩
    apply List.eq_nil_iff_forall_not_mem.2
    intro j hj
    obtain ⟨h0, o, ho, -⟩ := mem_ready.1 hj
    have hj' : j < ops.size := (Array.getElem?_eq_some_iff.1 ho).1
    have h1 := hall j hj'
    have hj2 : j < listed.size := by omega
    simp [Array.getD_eq_getD_getElem?, hj2] at h0 h1
    rw [h0] at h1; simp at h1
  | succ fuel ih =>
    intro listed a w hl hc hcl hI
    refine ⟨fun hr => hend _ a w (fun j => ⟨hlt listed hl j, hready listed hl hr j⟩) hI, fun i hi => ?_⟩
    obtain ⟨h0, o, ho, hall⟩ := mem_ready.1 hi
    have hi' : i < listed.size := by have := (Array.getElem?_eq_some_iff.1 ho).1; omega
    have hli : listed[i] = false := by simpa [Array.getD_eq_getD_getElem?, hi'] using h0
    have hbef : ∀ j, B i j → listed.getD j false = true := hB i o ho _ hcl fun e he hb => hall e (by simpa using he) hb
    refine hstep _ i o a w _ ho (hlt listed hl) hcl hbef (by simp [Array.getD_eq_getD_getElem?, hi', hli]) hI fun D' a' w' hD hI' => ?_
    have hset : (fun k => (listed.setIfInBounds i true).getD k false = true) = D' := by
      funext k
      apply propext
      rw [hD]
      by_cases hk : i = k
      · subst hk; simp [Array.getD_eq_getD_getElem?, hi']
      · rw [getD_set_ne false hk]
        exact ⟨.inl, fun h => h.resolve_right (Ne.symm hk)⟩
    refine ih _ a' w' (by simpa using hl) ?_ ?_ (by rw [hset]; exact hI')
    · rw [Array.toList_setIfInBounds, List.count_set (by simpa using hi')]
      have : listed.toList[i]'(by simpa using hi') = false := by simpa using hli
      rw [this]
      show List.count false listed.toList - 1 + 0 ≤ fuel
      omega
    · intro k hk j hj
      have hk' := (congrFun hset k).mp hk
      refine (congrFun hset j).mpr ((hD j).2 (.inl ?_))
      rcases (hD k).1 hk' with q | q
      · exact hcl k q j hj
      · subst q; exact hbef j hj
end Go.Ex

namespace Go.Ex
variable {sy : Nat → Value} {ρ : Env} {P : Program}

theorem cntL_eq {α : Type} {f : α → Bool} : ∀ {l : List α}, cntL f l = (l.filter f).length
  | [] => rfl
  | x :: l => by
    show bi (f x) (Nat.succ (cntL f l)) (cntL f l) = _
    rw [bi_eq, cntL_eq (l := l), List.filter_cons]
    split <;> simp
/-- what a plan says -/
structure PlanOk (P : Program) (ops : Array Oper) (its : List It) : Prop where
  len : its.length = ops.size
  op : ∀ (i : Nat) (x : It), its[i]? = some x → ops[i]? = some x.x.o ∧ x.x.i = i
  cls : ∀ (i : Nat) (x : It), its[i]? = some x → x.x.cl = clsK (kind x.x.o.op P) ∨ (x.x.cl = 5 ∧ clsK (kind x.x.o.op P) = 3 ∧ isStore x.x.o.op = true)
  good : ∀ (i : Nat) (x : It), its[i]? = some x → x.x.cl ≠ 4
  below : ∀ (i : Nat) (x : It) (j : Nat), its[i]? = some x → x.x.bef.testBit j = true → j < i
  pair : ∀ (i j : Nat) (x y : It), its[i]? = some x → its[j]? = some y → apart2 ops x.x y.x = true
  mask : ∃ M : List Nat, masks (P.follows .mixedOrders) ops.toList [] = M ∧ ∀ (i : Nat) (x : It), its[i]? = some x → M[i]? = some x.x.bef
  counts : ∀ (i : Nat) (x : It), its[i]? = some x → x.mn = cntL (fun c => (isEff c).and (Nat.testBit x.x.bef c.i)) (its.map (·.x)) ∧ x.mx = cntL (fun c => (isEff c).and (Nat.testBit c.bef x.x.i).not) (its.map (·.x))
  bare : ∀ (i : Nat) (x : It), its[i]? = some x → x.x.cl = 5 → x.x.o.guard = none
  two : (its.filter fun x => isLate x.x).length ≤ 2
  sel : Region.noSelect ops = true
  modes : modesOk (P.follows .mixedOrders) ops.toList = true
theorem late_o {l : List I0} {x : I0} : (late l x).o = x.o ∧ (late l x).i = x.i ∧ (late l x).bef = x.bef ∧ ((late l x).cl = x.cl ∨ ((late l x).cl = 5 ∧ x.cl = 3 ∧ isStore x.o.op = true)) := by
  unfold late
  rw [bi_eq]
  split
  · rename_i h
    rw [and_true', and_true'] at h
    exact ⟨rfl, rfl, rfl, .inr ⟨rfl, by simpa [isEff] using h.1, h.2.1⟩⟩
  · exact ⟨rfl, rfl, rfl, .inl rfl⟩
theorem plan_ok {ops : Array Oper} {its : List It} (h : plan P ops = some its) : PlanOk P ops its := by
  unfold plan at h
  rw [bi_some] at h
  obtain ⟨hm, h⟩ := h
  unfold plan1 at h
  rw [bi_some] at h
  obtain ⟨hok, h⟩ := h
  simp only [Option.some.injEq] at h
  have hI0 : ∀ (i : Nat) (x : I0), (items0 P ops)[i]? = some x → ops[i]? = some x.o ∧ x.i = i ∧ x.cl = clsK (kind x.o.op P) ∧ (masks (P.follows .mixedOrders) ops.toList [])[i]? = some x.bef := by
    intro i x hx
    unfold items0 at hx
    rw [mapL_eq, List.getElem?_map, idxL_get] at hx
    cases ho : ops[i]? with
    | none =>
      have : ops.toList[i]? = none := by simpa using ho
      rw [this] at hx; simp at hx
    | some o =>
      have ho' : ops.toList[i]? = some o := by simpa using ho
      rw [ho'] at hx
      simp at hx; subst hx
      have hM := (masks_get (mixed := P.follows .mixedOrders) (l := ops.toList) (acc := []) rfl).2.2 i o ho'
      simp only [List.length_nil, Nat.zero_add] at hM
      refine ⟨rfl, rfl, rfl, ?_⟩
      show _ = some (match nth (masks (P.follows .mixedOrders) ops.toList []) i with
        | some m => m
        | none => 0)
      rw [nth_eq, hM]
  have hI1 : ∀ (i : Nat) (y : I0), (items1 (items0 P ops))[i]? = some y → ∃ x, (items0 P ops)[i]? = some x ∧ y = late (items0 P ops) x := by
    intro i y hy
    unfold items1 at hy
    rw [mapL_eq, List.getElem?_map] at hy
    cases hx : (items0 P ops)[i]? with
    | none => rw [hx] at hy; simp at hy
    | some x => rw [hx] at hy; simp at hy; exact ⟨x, rfl, hy.symm⟩
  have hits : ∀ (i : Nat) (z : It), its[i]? = some z → ∃ y, (items1 (items0 P ops))[i]? = some y ∧ z = item1 (items1 (items0 P ops)) y := by
    intro i z hz
    rw [← h, mapL_eq, List.getElem?_map] at hz
    cases hy : (items1 (items0 P ops))[i]? with
    | none => rw [hy] at hz; simp at hz
    | some y => rw [hy] at hz; simp at hz; exact ⟨y, rfl, hz.symm⟩
  have hmap : its.map (·.x) = items1 (items0 P ops) := by
    rw [← h, mapL_eq, List.map_map]
    have : ((fun x : It => x.x) ∘ item1 (items1 (items0 P ops))) = id := rfl
    rw [this, List.map_id]
  unfold okOps at hok
  rw [and_true', and_true', allL_mem] at hok
  have hokI : ∀ (i : Nat) (z : It), its[i]? = some z → okI ops (items1 (items0 P ops)) z.x = true := by
    intro i z hz
    obtain ⟨y, hy, rfl⟩ := hits i z hz
    exact hok.1.1 y (List.mem_of_getElem? hy)
  have hall : ∀ (i : Nat) (z : It), its[i]? = some z → ops[i]? = some z.x.o ∧ z.x.i = i ∧ (z.x.cl = clsK (kind z.x.o.op P) ∨ (z.x.cl = 5 ∧ clsK (kind z.x.o.op P) = 3 ∧ isStore z.x.o.op = true)) ∧ (masks (P.follows .mixedOrders) ops.toList [])[i]? = some z.x.bef := by
    intro i z hz
    obtain ⟨y, hy, rfl⟩ := hits i z hz
    obtain ⟨x, hx, rfl⟩ := hI1 i y hy
    obtain ⟨k1, k2, k3, k4⟩ := hI0 i x hx
    obtain ⟨l1, l2, l3, l4⟩ := late_o (l := items0 P ops) (x := x)
    refine ⟨by show ops[i]? = some (late _ x).o; rw [l1]; exact k1, by show (late _ x).i = i; rw [l2]; exact k2, ?_, by show _ = some (late _ x).bef; rw [l3]; exact k4⟩
    show (late _ x).cl = clsK (kind (late _ x).o.op P) ∨ ((late _ x).cl = 5 ∧ clsK (kind (late _ x).o.op P) = 3 ∧ isStore (late _ x).o.op = true)
    rw [l1, ← k3]
    exact l4
  have hok2 : ∀ (i : Nat) (z : It), its[i]? = some z → z.x.cl ≠ 4 ∧ z.x.bef < 2 ^ z.x.i ∧ (∀ y ∈ items1 (items0 P ops), apart2 ops z.x y = true) ∧ (z.x.cl = 5 → z.x.o.guard = none) := by
    intro i z hz
    have := hokI i z hz
    unfold okI at this
    rw [and_true', and_true', and_true', allL_mem] at this
    obtain ⟨⟨⟨q1, q2⟩, q4⟩, q3⟩ := this
    refine ⟨fun e => by rw [e] at q1; simp at q1, ?_, q3, fun e => ?_⟩
    rotate_left
    · have : isLate z.x = true := by simp [isLate, e]
      rw [this] at q4
      have q4' : isNone z.x.o.guard = true := q4
      unfold isNone at q4'
      split at q4'
      · assumption
      · simp at q4'
    have q2' : Nat.blt z.x.bef (1 <<< z.x.i) = true := q2
    rw [Nat.one_shiftLeft] at q2'
    simpa [Nat.blt_eq] using q2'
  refine ⟨?_, fun i z hz => ⟨(hall i z hz).1, (hall i z hz).2.1⟩, fun i z hz => (hall i z hz).2.2.1, fun i z hz => (hok2 i z hz).1, fun i z j hz hj => ?_, fun i j z y hz hy => ?_, ⟨_, rfl, fun i z hz => (hall i z hz).2.2.2⟩, fun i z hz => ?_, fun i z hz => (hok2 i z hz).2.2.2, ?_, hok.2, hm⟩
  · have h1 : (items1 (items0 P ops)).length = ops.size := by
      unfold items1 items0
      rw [mapL_eq, List.length_map, mapL_eq, List.length_map]
      have : ∀ (l : List Oper) n, (idxL l n).length = l.length := by
        intro l
        induction l with
        | nil => intro n; rfl
        | cons x l ih => intro n; show ((n, x) :: idxL l (n + 1)).length = _; simp [ih]
      rw [this]; simp
    rw [← h1, ← hmap, List.length_map]
  · rw [← (hall i z hz).2.1]
    exact Nat.lt_of_not_le fun hle => by
      have := Nat.testBit_lt_two_pow (Nat.lt_of_lt_of_le (hok2 i z hz).2.1 (Nat.pow_le_pow_right (by decide) hle))
      rw [this] at hj; simp at hj
  · obtain ⟨y', hy', rfl⟩ := hits j y hy
    exact (hok2 i z hz).2.2.1 y' (List.mem_of_getElem? hy')
  · obtain ⟨y, hy, rfl⟩ := hits i z hz
    rw [hmap]
    exact ⟨rfl, rfl⟩
  · have h2 := hok.1.2
    rw [cntL_eq] at h2
    have h3 : (items1 (items0 P ops)).filter isLate = (its.filter fun x => isLate x.x).map (·.x) := by rw [← hmap, List.filter_map]; rfl
    have h4 : ((items1 (items0 P ops)).filter isLate).length ≤ 2 := by simpa using h2
    rw [h3, List.length_map] at h4; exact h4
end Go.Ex

namespace Go.Ex
variable {sy : Nat → Value} {ρ : Env} {P : Program}

/-- j stands before i -/
def Bf (its : List It) (i j : Nat) : Prop := ∃ x, its[i]? = some x ∧ x.x.bef.testBit j = true
theorem PlanOk.bits {ops : Array Oper} {its : List It} (h : PlanOk P ops its) {i j : Nat} {x : It} (hx : its[i]? = some x) :
    x.x.bef.testBit j = true ↔ ∃ e ∈ x.x.o.after.toList, usesE (P.follows .mixedOrders) x.x.o.after.toList e = true ∧ (j = e.on ∨ (e.on < i ∧ Bf its e.on j)) := by
  obtain ⟨M, hM, hMx⟩ := h.mask
  have ho : ops.toList[i]? = some x.x.o := by simpa using (h.op i x hx).1
  obtain ⟨g1, -, g3⟩ := masks_get hM
  have h1 := g3 i _ ho
  simp only [List.length_nil, Nat.zero_add] at h1 g1
  rw [hMx i x hx] at h1
  simp only [Option.some.injEq] at h1
  rw [h1, maskE_bit]
  have key : ∀ k : Nat, (∃ m, (M.take i)[k]? = some m ∧ m.testBit j = true) ↔ (k < i ∧ Bf its k j) := by
    intro k
    rw [List.getElem?_take]
    constructor
    · rintro ⟨m, hm, hj⟩
      split at hm
      · rename_i hk
        refine ⟨hk, ?_⟩
        have hkl : k < its.length := by
          have := (List.getElem?_eq_some_iff.1 hm).1
          rw [h.len]; simp at g1; omega
        have hz : its[k]? = some its[k] := by simp [hkl]
        refine ⟨its[k], hz, ?_⟩
        have := hMx k _ hz
        rw [hm] at this
        simp at this
        rw [← this]; exact hj
      · simp at hm
    · rintro ⟨hk, z, hz, hj⟩
      rw [if_pos hk]
      exact ⟨_, hMx k z hz, hj⟩
  simp only [key]
theorem PlanOk.below' {ops : Array Oper} {its : List It} (h : PlanOk P ops its) {i j : Nat} (hb : Bf its i j) : j < i := by
  obtain ⟨x, h1, h2⟩ := hb
  exact h.below i x j h1 h2
theorem PlanOk.trans {ops : Array Oper} {its : List It} (h : PlanOk P ops its) : ∀ (i : Nat) {j k : Nat}, Bf its i j → Bf its j k → Bf its i k := by
  intro i
  induction i using Nat.strongRecOn with
  | _ i ih =>
    intro j k hij hjk
    have hji := h.below' hij
    obtain ⟨x, hx, hb⟩ := hij
    refine ⟨x, hx, (h.bits hx).2 ?_⟩
    obtain ⟨e, he, hu, hc⟩ := (h.bits hx).1 hb
    refine ⟨e, he, hu, .inr ?_⟩
    rcases hc with rfl | ⟨hlt, hc⟩
    · exact ⟨hji, hjk⟩
    · exact ⟨hlt, ih _ hlt hc hjk⟩
theorem PlanOk.listed {ops : Array Oper} {its : List It} (h : PlanOk P ops its) {m : Region.Mode} (hm : ModeOk (P.follows .mixedOrders) ops m) {i : Nat} {o : Oper} (ho : ops[i]? = some o) {D : Nat → Prop}
    (hD : ∀ k, D k → ∀ j, Bf its k j → D j) (he : ∀ e ∈ o.after.toList, Region.binds m e = true → D e.on) {j : Nat} (hj : Bf its i j) : D j := by
  obtain ⟨x, hx, hb⟩ := hj
  have hxo := (h.op i x hx).1
  rw [ho] at hxo; simp at hxo; subst hxo
  obtain ⟨e, h1, hu, hc⟩ := (h.bits hx).1 hb
  have hmem : x.x.o ∈ ops.toList := List.mem_of_getElem? (by simpa using ho)
  obtain ⟨y, hy1, hy2, hy3⟩ := usesE_binds hm hmem h1 hu
  have hDe : D e.on := by rw [← hy3]; exact he y hy1 hy2
  rcases hc with rfl | ⟨-, hc⟩
  · exact hDe
  · exact hD _ hDe j hc
/-- a region that draws its order, by what holds of each set of operations that may be done -/
theorem wp_drawn {ops : Array Oper} {its : List It} (h : PlanOk P ops its) {id : Nat} {Q : Exit → Act → World → Prop} (Inv : (Nat → Prop) → Act → World → Prop)
    (hstep : ∀ (D : Nat → Prop) i x a w K, its[i]? = some x → (∀ k, D k → k < ops.size) → (∀ k, D k → ∀ j, Bf its k j → D j) → (∀ j, Bf its i j → D j) → ¬ D i → Inv D a w →
      (∀ D' a' w', (∀ k, D' k ↔ D k ∨ k = i) → Inv D' a' w' → K a' w') → (if Region.wanted x.x.o (yielded ops a.tmps) then x.x.o.wp P a w K Q else K (a.put x.x.o.dst undef) w))
    (hend : ∀ (D : Nat → Prop) a w, (∀ j, D j ↔ j < ops.size) → Inv D a w → Q .normal a w)
    {a : Act} {w : World} (h0 : ∀ D : Nat → Prop, (∀ k, ¬ D k) → Inv D a { w with drawn := w.drawn + 1 }) : (Code.region id ops true).wp P Q a w := by
  refine wp_region_draw fun t => ?_
  obtain ⟨m, t', e1, e2, e3⟩ := modesOk_comes h.modes t
  rw [e1]
  refine wpAny_sound ops.size t' _ a _ (wpAny_inv (Bf its) (fun i o ho D hD he j hj => h.listed e2 ho hD he hj) (fun S hS j hj => comes_sub e3 (fun k o ho he => hS k o (by simpa using ho) he) j (by simpa using hj)) Inv
    (fun D i o a w K ho hD1 hD2 hb hn hI hK => ?_) hend ops.size _ a _ (by simp) ?_ ?_ ?_)
  · have hi : i < its.length := by rw [h.len]; exact (Array.getElem?_eq_some_iff.1 ho).1
    have hx : its[i]? = some its[i] := by simp [hi]
    have hxo := (h.op i _ hx).1
    have hs := hstep D i _ a w K hx hD1 hD2 hb hn hI hK
    unfold wpOp
    rw [hxo]
    show (if _ then _ else _)
    split
    · rename_i hw; rw [if_pos hw] at hs; exact .inl hs
    · rename_i hw; rw [if_neg hw] at hs; exact hs
  · simp
  · intro k hk
    simp [Array.getD_eq_getD_getElem?, Array.getElem?_replicate] at hk
    split at hk <;> simp at hk
  · refine h0 _ fun k hk => ?_
    simp [Array.getD_eq_getD_getElem?, Array.getElem?_replicate] at hk
    split at hk <;> simp at hk
end Go.Ex

namespace Go.Ex
variable {sy : Nat → Value} {ρ : Env} {P : Program}

/-! two values that are held to be the same are -/
theorem kctor {k l : IntKind} (h : Nat.beq k.ctorIdx l.ctorIdx = true) : k = l := by cases k <;> cases l <;> first | rfl | cases h
theorem eq1_eq {x y : AV} (h : eq1 x y = true) : x = y := by
  unfold eq1 at h
  split at h
  · rw [and_true'] at h
    obtain ⟨h1, h2⟩ := h
    rw [ibeq_eq] at h2
    rw [kctor h1, of_decide_eq_true h2]
  · rename_i a b
    cases a <;> cases b <;> first | rfl | cases h
  all_goals first
    | rfl
    | (simp only [and_true'] at h; simp_all; done)
    | (simp at h; simp_all; done)
    | (simp at h)
theorem eqL_eq : ∀ {l m : List AV}, eqL l m = true → l = m
  | [], [], _ => rfl
  | [], _ :: _, h => by cases h
  | _ :: _, [], h => by cases h
  | a :: l, b :: m, h => by
    have h' : Bool.and (eq1 a b) (eqL l m) = true := h
    rw [and_true'] at h'
    rw [eq1_eq h'.1, eqL_eq h'.2]
theorem eqA_eq {x y : AV} (h : eqA x y = true) : x = y := by
  unfold eqA at h
  split at h
  · rw [eqL_eq h]
  · exact eq1_eq h

/-- a look at memory looks at the rows and the families alone -/
theorem read_same {op : Op} {f : RO} (h : kind op P = .read f) {tm : T AV} {s s' : St} (h1 : s.heap = s'.heap) (h2 : s.fams = s'.fams) (h3 : s.floor = s'.floor) : f P tm s = f P tm s' := by
  obtain ⟨a, b, c, d⟩ := s
  obtain ⟨a', b', c', d'⟩ := s'
  simp only at h1 h2 h3
  subst h1; subst h2; subst h3
  cases op
  case load t x => cases h; rfl
  case binOp o t x y u =>
    have h' : kBin o t x y u P = .read f := h
    unfold kBin at h'
    split at h'
    · rw [bi_eq] at h'
      split at h'
      · cases h'
        rfl
      · simp at h'
    · simp at h'
  case convert s d x =>
    have h' : kConvert s d x P = .read f := h
    unfold kConvert at h'
    split at h'
    · unfold kConv at h'
      split at h' <;> simp at h'
      subst h'
      rfl
    · simp at h'
  case call c =>
    have h' : kCall c = .read f := h
    unfold kCall at h'
    split at h'
    · rename_i b hb; exact absurd h' (kBuiltin_none.1 f)
    · simp at h'
    · simp at h'
  all_goals cases h

/-! rows that wait -/
theorem merge_rest {m : Nat} : ∀ {p : Pend} {s : St}, (merge m p s).next = s.next ∧ (merge m p s).fams = s.fams ∧ (merge m p s).floor = s.floor
  | [], s => ⟨rfl, rfl, rfl⟩
  | x :: p, s => by
    have ih := merge_rest (m := m) (p := p) (s := s)
    have e : merge m (x :: p) s = bi (Nat.testBit m x.1) ⟨(merge m p s).heap.set x.2.1 x.2.2, (merge m p s).fams, (merge m p s).next, (merge m p s).floor⟩ (merge m p s) := rfl
    rw [e, bi_eq]
    split
    · exact ih
    · exact ih
theorem merge_get {m : Nat} {i : Nat} {r : Row} : ∀ {p : Pend} {s : St}, (merge m p s).heap.get i = some r → (∃ j, (j, i, r) ∈ p ∧ m.testBit j = true) ∨ ((∀ x ∈ p, m.testBit x.1 = true → x.2.1 ≠ i) ∧ s.heap.get i = some r)
  | [], s, h => .inr ⟨fun x hx => by simp at hx, h⟩
  | x :: p, s, h => by
    have ih := merge_get (m := m) (i := i) (r := r) (p := p) (s := s)
    have e : merge m (x :: p) s = bi (Nat.testBit m x.1) ⟨(merge m p s).heap.set x.2.1 x.2.2, (merge m p s).fams, (merge m p s).next, (merge m p s).floor⟩ (merge m p s) := rfl
    rw [e, bi_eq] at h
    have hrec : (merge m p s).heap.get i = some r → (m.testBit x.1 = true → x.2.1 ≠ i) → (∃ j, (j, i, r) ∈ x :: p ∧ m.testBit j = true) ∨ ((∀ y ∈ x :: p, m.testBit y.1 = true → y.2.1 ≠ i) ∧ s.heap.get i = some r) := fun h hx => by
      rcases ih h with ⟨j, h1, h2⟩ | ⟨h1, h2⟩
      · exact .inl ⟨j, List.mem_cons_of_mem _ h1, h2⟩
      · refine .inr ⟨fun y hy => ?_, h2⟩
        rcases List.mem_cons.1 hy with rfl | hy
        · exact hx
        · exact h1 y hy
    split at h
    · rename_i hb
      simp only [T.get_set] at h
      split at h
      · rename_i e2
        simp at h; subst h; subst e2
        exact .inl ⟨x.1, by simp, hb⟩
      · rename_i e2
        exact hrec h fun _ e3 => e2 e3.symm
    · rename_i hb
      exact hrec h fun hc => absurd hc hb
theorem merge_out {m : Nat} {i : Nat} : ∀ {p : Pend} {s : St}, (∀ x ∈ p, m.testBit x.1 = true → x.2.1 ≠ i) → (merge m p s).heap.get i = s.heap.get i
  | [], s, _ => rfl
  | x :: p, s, h => by
    have ih := merge_out (m := m) (i := i) (p := p) (s := s) fun y hy => h y (List.mem_cons_of_mem _ hy)
    have e : merge m (x :: p) s = bi (Nat.testBit m x.1) ⟨(merge m p s).heap.set x.2.1 x.2.2, (merge m p s).fams, (merge m p s).next, (merge m p s).floor⟩ (merge m p s) := rfl
    rw [e, bi_eq]
    split
    · rename_i hb
      simp only [T.get_set]
      rw [if_neg fun e2 => h x (by simp) hb e2.symm]
      exact ih
    · exact ih
theorem merge_in {m : Nat} {j i : Nat} {r : Row} : ∀ {p : Pend} {s : St}, (j, i, r) ∈ p → m.testBit j = true → (∀ x ∈ p, x.2.1 = i → x = (j, i, r)) → (merge m p s).heap.get i = some r
  | [], s, h, _, _ => by simp at h
  | x :: p, s, h, hb, hu => by
    have ih := merge_in (m := m) (j := j) (i := i) (r := r) (p := p) (s := s)
    have e : merge m (x :: p) s = bi (Nat.testBit m x.1) ⟨(merge m p s).heap.set x.2.1 x.2.2, (merge m p s).fams, (merge m p s).next, (merge m p s).floor⟩ (merge m p s) := rfl
    rw [e, bi_eq]
    by_cases hx : x.2.1 = i
    · have := hu x (by simp) hx
      subst this
      rw [if_pos hb]
      simp [T.get_set]
    · have hm : (j, i, r) ∈ p := by
        rcases List.mem_cons.1 h with q | q
        · subst q; exact absurd rfl hx
        · exact q
      have h2 := ih hm hb fun y hy => hu y (List.mem_cons_of_mem _ hy)
      split
      · simp only [T.get_set]
        rw [if_neg fun e2 => hx e2.symm]
        exact h2
      · exact h2
theorem mem_unpend {m : Nat} {x : Nat × Nat × Row} : ∀ {p : Pend}, x ∈ unpend m p ↔ x ∈ p ∧ m.testBit x.1 = false
  | [] => by
    show x ∈ ([] : Pend) ↔ _
    simp
  | y :: p => by
    have ih := mem_unpend (m := m) (x := x) (p := p)
    have e : unpend m (y :: p) = bi (Nat.testBit m y.1) (unpend m p) (y :: unpend m p) := rfl
    rw [e, bi_eq]
    split
    · rename_i hb
      rw [ih]
      simp only [List.mem_cons]
      constructor
      · rintro ⟨h1, h2⟩; exact ⟨.inr h1, h2⟩
      · rintro ⟨rfl | h1, h2⟩
        · rw [hb] at h2; simp at h2
        · exact ⟨h1, h2⟩
    · rename_i hb
      simp only [List.mem_cons, ih]
      constructor
      · rintro (rfl | ⟨h1, h2⟩)
        · exact ⟨.inl rfl, by simpa using hb⟩
        · exact ⟨.inr h1, h2⟩
      · rintro ⟨rfl | h1, h2⟩
        · exact .inl rfl
        · exact .inr ⟨h1, h2⟩
theorem mergeAll_rest : ∀ {p : Pend} {s : St}, (mergeAll p s).next = s.next ∧ (mergeAll p s).fams = s.fams ∧ (mergeAll p s).floor = s.floor
  | [], _ => ⟨rfl, rfl, rfl⟩
  | _ :: p, s => mergeAll_rest (p := p) (s := s)
theorem mergeAll_get {i : Nat} {r : Row} : ∀ {p : Pend} {s : St}, (mergeAll p s).heap.get i = some r → (∃ j, (j, i, r) ∈ p) ∨ ((∀ x ∈ p, x.2.1 ≠ i) ∧ s.heap.get i = some r)
  | [], s, h => .inr ⟨fun x hx => by simp at hx, h⟩
  | x :: p, s, h => by
    have e : (mergeAll (x :: p) s).heap = (mergeAll p s).heap.set x.2.1 x.2.2 := rfl
    rw [e, T.get_set] at h
    split at h
    · rename_i e2
      simp at h; subst h; subst e2
      exact .inl ⟨x.1, by simp⟩
    · rename_i e2
      rcases mergeAll_get h with ⟨j, h1⟩ | ⟨h1, h2⟩
      · exact .inl ⟨j, List.mem_cons_of_mem _ h1⟩
      · refine .inr ⟨fun y hy => ?_, h2⟩
        rcases List.mem_cons.1 hy with rfl | hy
        · exact fun e3 => e2 e3.symm
        · exact h1 y hy
theorem mergeAll_in {j i : Nat} {r : Row} : ∀ {p : Pend} {s : St}, (j, i, r) ∈ p → (∀ x ∈ p, x.2.1 = i → x = (j, i, r)) → (mergeAll p s).heap.get i = some r
  | [], s, h, _ => by simp at h
  | x :: p, s, h, hu => by
    have e : (mergeAll (x :: p) s).heap = (mergeAll p s).heap.set x.2.1 x.2.2 := rfl
    rw [e, T.get_set]
    by_cases hx : x.2.1 = i
    · have := hu x (by simp) hx
      subst this
      simp
    · have hm : (j, i, r) ∈ p := by
        rcases List.mem_cons.1 h with q | q
        · subst q; exact absurd rfl hx
        · exact q
      rw [if_neg fun e2 => hx e2.symm]
      exact mergeAll_in hm fun y hy => hu y (List.mem_cons_of_mem _ hy)
theorem mergeAll_out {i : Nat} : ∀ {p : Pend} {s : St}, (∀ x ∈ p, x.2.1 ≠ i) → (mergeAll p s).heap.get i = s.heap.get i
  | [], s, _ => rfl
  | x :: p, s, h => by
    have e : (mergeAll (x :: p) s).heap = (mergeAll p s).heap.set x.2.1 x.2.2 := rfl
    rw [e, T.get_set, if_neg fun e2 => h x (by simp) e2.symm]
    exact mergeAll_out fun y hy => h y (List.mem_cons_of_mem _ hy)

/-! a table of some temporaries alone -/
noncomputable def only (tm : T AV) : List Tmp → T AV
  | [] => .E
  | t :: l => match tm.get t with
    | some v => (only tm l).set t v
    | none => only tm l
theorem only_get {tm : T AV} : ∀ {l : List Tmp} {t : Tmp}, (t ∈ l → (only tm l).get t = tm.get t) ∧ (∀ v, (only tm l).get t = some v → t ∈ l ∧ tm.get t = some v)
  | [], t => ⟨fun h => by simp at h, fun v h => by simp [only, T.get_E] at h⟩
  | x :: l, t => by
    obtain ⟨h1, h2⟩ := only_get (tm := tm) (l := l) (t := t)
    have hset : ∀ v, tm.get x = some v → (only tm (x :: l)) = (only tm l).set x v := fun v hv => by simp only [only, hv]
    have hno : tm.get x = none → only tm (x :: l) = only tm l := fun hv => by simp only [only, hv]
    cases hv : tm.get x with
    | some v =>
      rw [hset v hv]
      refine ⟨fun hm => ?_, fun u hu => ?_⟩
      · rw [T.get_set]
        split
        · rename_i e; subst e; exact hv.symm
        · rename_i e
          exact h1 ((List.mem_cons.1 hm).resolve_left e)
      · rw [T.get_set] at hu
        split at hu
        · rename_i e; subst e; simp at hu; subst hu; exact ⟨by simp, hv⟩
        · exact ⟨List.mem_cons_of_mem _ (h2 u hu).1, (h2 u hu).2⟩
    | none =>
      rw [hno hv]
      refine ⟨fun hm => ?_, fun u hu => ⟨List.mem_cons_of_mem _ (h2 u hu).1, (h2 u hu).2⟩⟩
      rcases List.mem_cons.1 hm with rfl | hm
      · cases hq : (only tm l).get t with
        | none => exact hv.symm
        | some u => rw [hv] at h2; exact absurd (h2 u hq).2 (by simp)
      · exact h1 hm
theorem only_operands {ops : Array Oper} {o : Oper} {tm : T AV} : ∀ x ∈ o.op.operands, Same1 tm (only tm (o.looksAt ops)) x := by
  intro x hx t ht
  subst ht
  refine (only_get.1 ?_).symm
  unfold Oper.looksAt
  rw [List.mem_append]
  exact .inl (List.mem_filterMap.2 ⟨.tmp t, by simpa using hx, rfl⟩)
theorem only_guard {ops : Array Oper} {o : Oper} {tm : T AV} {w : Bool} (h : want ops tm o.guard = some w) : want ops (only tm (o.looksAt ops)) o.guard = some w := by
  cases hg : o.guard with
  | none => rw [hg] at h; exact h
  | some p =>
    rw [hg] at h
    simp only [want, ob_some] at h ⊢
    obtain ⟨x, h1, d, h2, v, h3, h4⟩ := h
    refine ⟨x, h1, d, h2, v, ?_, h4⟩
    rw [only_get.1]
    · exact h3
    · unfold Oper.looksAt
      rw [List.mem_append]
      refine .inr ?_
      rw [hg]
      simp [h1, h2]
end Go.Ex

namespace Go.Ex
variable {sy : Nat → Value} {ρ : Env} {P : Program}

/-- the same, as far as one looks -/
structure SEq (s s' : St) : Prop where
  next : s'.next = s.next
  floor : s'.floor = s.floor
  heap : ∀ i, s'.heap.get i = s.heap.get i
  fams : ∀ f, s'.fams.get f = s.fams.get f
theorem SEq.refl (s : St) : SEq s s := ⟨rfl, rfl, fun _ => rfl, fun _ => rfl⟩
theorem SatS.seq {s s' : St} {w : World} (h : SatS sy ρ s w) (e : SEq s s') : SatS sy ρ s' w := by
  refine ⟨?_, fun id row hr => ?_, by rw [e.floor, e.next]; exact h.fln⟩
  · rw [e.floor]
    refine h.sat.ext (fun i => ?_) e.fams
    unfold St.hv
    rw [e.heap]
  · rw [e.heap] at hr
    exact h.wf id row hr
theorem storeC_inv {s s' : St} {id off : Nat} {vs : List AV} (h : storeC s id off vs = some s') :
    ∃ row F cs, s.floor ≤ id ∧ s.heap.get id = some row ∧ readable s id row.fam = true ∧ touch s id row.fam off = some F ∧ putRow row off vs (lenL vs) = some cs ∧ s' = ⟨s.heap.set id ⟨row.fam, row.exact, row.sz, cs, row.ty⟩, F, s.next, s.floor⟩ := by
  simp only [storeC, bi_some, ob_some, storeR] at h
  obtain ⟨h1, row, h2, h3, F', h4, cs, h5, h6⟩ := h
  simp only [Option.some.injEq] at h6
  exact ⟨row, F', cs, by simpa using h1, h2, h3, h4, h5, h6.symm⟩
theorem touch_get {s : St} {id fam off : Nat} {F : T (List (Nat × Nat))} (h : touch s id fam off = some F) :
    (fam = 0 ∧ F = s.fams) ∨ (fam ≠ 0 ∧ ∃ e l, s.fams.get fam = some ((id, e) :: l) ∧ F = s.fams.set fam ((id, e) :: filterL (fun q => Nat.ble q.2 off) l)) := by
  cases fam with
  | zero =>
    have h' : some s.fams = some F := h
    simp at h'
    exact .inl ⟨rfl, h'.symm⟩
  | succ fam =>
    have h' : ob (s.fams.get (fam + 1)) (fun l => ob (cutPath id off l) fun l' => some (s.fams.set (fam + 1) l')) = some F := h
    simp only [ob_some, Option.some.injEq] at h'
    obtain ⟨l, h1, l', h2, h3⟩ := h'
    refine .inr ⟨by simp, ?_⟩
    unfold cutPath at h2
    split at h2
    · simp at h2
    · rename_i p q
      rw [bi_some] at h2
      obtain ⟨g1, g2⟩ := h2
      simp at g2
      have g1' : p.1 = id := by simpa using g1
      obtain ⟨p1, p2⟩ := p
      simp at g1'
      subst g1'
      exact ⟨p2, q, h1, by rw [← h3, ← g2]⟩
/-- two stores in two rows: in either order -/
theorem store_comm {s0 s1 s12 s2 s21 : St} {i1 o1 i2 o2 : Nat} {v1 v2 : List AV} (h1 : storeC s0 i1 o1 v1 = some s1) (h12 : storeC s1 i2 o2 v2 = some s12) (h2 : storeC s0 i2 o2 v2 = some s2) (h21 : storeC s2 i1 o1 v1 = some s21)
    (hne : i1 ≠ i2) : SEq s12 s21 := by
  obtain ⟨r1, F1, c1, a1, a2, a3, a4, a5, rfl⟩ := storeC_inv h1
  obtain ⟨r2, F2, c2, b1, b2, b3, b4, b5, rfl⟩ := storeC_inv h2
  obtain ⟨q2, G2, d2, e1, e2, e3, e4, e5, rfl⟩ := storeC_inv h12
  obtain ⟨q1, G1, d1, f1, f2, f3, f4, f5, rfl⟩ := storeC_inv h21
  simp only at e2 f2
  rw [T.get_set, if_neg (Ne.symm hne), b2] at e2
  rw [T.get_set, if_neg hne, a2] at f2
  simp at e2 f2
  subst e2; subst f2
  rw [b5] at e5; rw [a5] at f5
  simp at e5 f5
  subst e5; subst f5
  refine ⟨rfl, rfl, fun i => ?_, fun f => ?_⟩
  · simp only [T.get_set]
    by_cases k1 : i = i1
    · subst k1; simp [hne]
    · by_cases k2 : i = i2
      · subst k2; simp [k1]
      · simp [k1, k2]
  · simp only
    rcases touch_get a4 with ⟨x1, rfl⟩ | ⟨x1, x2, x3, x4, rfl⟩
    · rcases touch_get f4 with ⟨-, rfl⟩ | ⟨y1, -⟩
      · rcases touch_get b4 with ⟨x1', rfl⟩ | ⟨x1', x2', x3', x4', rfl⟩
        · rcases touch_get e4 with ⟨-, rfl⟩ | ⟨y1, -⟩
          · rfl
          · exact absurd x1' y1
        · rcases touch_get e4 with ⟨y1, -⟩ | ⟨-, y2, y3, y4, rfl⟩
          · exact absurd y1 x1'
          · simp only at y4
            rw [x4'] at y4
            simp at y4
            obtain ⟨rfl, rfl⟩ := y4
            rfl
      · exact absurd x1 y1
    · rcases touch_get f4 with ⟨y1, -⟩ | ⟨-, y2, y3, y4, rfl⟩
      · exact absurd y1 x1
      · simp only at y4
        rcases touch_get b4 with ⟨x1', rfl⟩ | ⟨x1', x2', x3', x4', rfl⟩
        · rw [x4] at y4
          simp at y4
          obtain ⟨rfl, rfl⟩ := y4
          rcases touch_get e4 with ⟨-, rfl⟩ | ⟨z1, -⟩
          · rfl
          · exact absurd x1' z1
        · have hfam : r1.fam ≠ r2.fam := by
            intro e
            rw [e, x4'] at x4
            simp at x4
            exact hne x4.1.1.symm
          rw [T.get_set, if_neg hfam, x4] at y4
          simp at y4
          obtain ⟨rfl, rfl⟩ := y4
          rcases touch_get e4 with ⟨z1, -⟩ | ⟨-, z2, z3, z4, rfl⟩
          · exact absurd z1 x1'
          · simp only at z4
            rw [T.get_set, if_neg (Ne.symm hfam), x4'] at z4
            simp at z4
            obtain ⟨rfl, rfl⟩ := z4
            simp only [T.get_set]
            by_cases k1 : f = r1.fam
            · subst k1; simp [hfam]
            · by_cases k2 : f = r2.fam
              · subst k2; simp [k1]
              · simp [k1, k2]

/-! a trace of a region, in the order of its text -/
/-- one step of it -/
inductive Stp (P : Program) (call : CallR) (ops : Array Oper) (x : It) (d d' : DS) : Prop
  | skip (hw : want ops d.tm x.x.o.guard = some false) (hc : x.x.cl ≠ 3) (hc5 : x.x.cl ≠ 5) (e : d' = ⟨put d.tm (.tup []) x.x.o.dst, d.s, d.pend, d.snaps, d.lds, d.lss⟩)
  | skipE (hw : want ops d.tm x.x.o.guard = some false) (hc : x.x.cl = 3) (e : d' = ⟨put d.tm (.tup []) x.x.o.dst, merge x.x.bef d.pend d.s, unpend x.x.bef d.pend, merge x.x.bef d.pend d.s :: d.snaps, d.lds, d.lss⟩)
  | pure (f : PO) (v : AV) (hw : want ops d.tm x.x.o.guard = some true) (hc : x.x.cl = 0) (hk : kind x.x.o.op P = .pure f) (hf : f P d.tm = some v) (e : d' = ⟨put d.tm v x.x.o.dst, d.s, d.pend, d.snaps, d.lds, d.lss⟩)
  | read (f : RO) (r : Rd) (hw : want ops d.tm x.x.o.guard = some true) (hc : x.x.cl = 1) (hk : kind x.x.o.op P = .read f) (hf : f P d.tm d.s = some r) (e : d' = ⟨put d.tm r.v x.x.o.dst, d.s, d.pend, d.snaps, ⟨x, f, d.tm, r⟩ :: d.lds, d.lss⟩)
  | new (f : NO) (v : AV) (row : Row) (hw : want ops d.tm x.x.o.guard = some true) (hc : x.x.cl = 2) (hk : kind x.x.o.op P = .new f) (hf : f P d.tm d.s.next = some (v, row))
      (e : d' = ⟨put d.tm v x.x.o.dst, ⟨d.s.heap, d.s.fams, Nat.succ d.s.next, d.s.floor⟩, (x.x.i, d.s.next, row) :: d.pend, d.snaps, d.lds, d.lss⟩)
  | eff (f : CallR → O) (v : AV) (s' : St) (hw : want ops d.tm x.x.o.guard = some true) (hc : x.x.cl = 3) (hk : kind x.x.o.op P = .eff f) (hf : f call P d.tm (merge x.x.bef d.pend d.s) = some (v, s'))
      (e : d' = ⟨put d.tm v x.x.o.dst, s', unpend x.x.bef d.pend, s' :: d.snaps, d.lds, d.lss⟩)
  | late (t : TypeId) (a y : Operand) (av : AV) (p : Nat × Nat) (yv : AV) (vs : List AV) (n : Nat) (s' : St) (hw : x.x.o.guard = none) (hc : x.x.cl = 5) (ho : x.x.o.op = .store t a y) (h1 : ev a d.tm = some av) (h2 : asPtr av = some p)
      (h3 : ev y d.tm = some yv) (h4 : cells? yv = some vs) (h5 : sized P t vs = some n) (h6 : lateTwo p.1 p.2 vs d.lss = true) (h7 : storeC (merge x.x.bef d.pend d.s) p.1 p.2 vs = some s')
      (e : d' = ⟨put d.tm (.tup []) x.x.o.dst, s', unpend x.x.bef d.pend, d.snaps, d.lds, ⟨x, p.1, p.2, vs, merge x.x.bef d.pend d.s⟩ :: d.lss⟩)
theorem stp_of {call : CallR} {ops : Array Oper} {its : List It} (hp : PlanOk P ops its) {i : Nat} {x : It} {d d' : DS} (hx : its[i]? = some x) (h : dItem P call ops x d = some d') : Stp P call ops x d d' := by
  simp only [dItem, ob_some] at h
  obtain ⟨w, hw, h⟩ := h
  rw [bi_eq] at h
  split at h
  · rename_i ht
    subst ht
    unfold dOp at h
    rw [bi_eq] at h
    split at h
    · rename_i hl
      have hc : x.x.cl = 5 := by simpa [isLate] using hl
      have key : ∀ o : Op, dLateO o x P d = some d' → ∃ t a y, o = .store t a y := by
        intro o
        cases o <;> intro h <;> first
          | exact ⟨_, _, _, rfl⟩
          | cases h
      obtain ⟨t, a, y, ho⟩ := key _ h
      rw [ho] at h
      · simp only [dLateO, dLate, dLate1, ob_some, bi_some, Option.some.injEq] at h
        obtain ⟨av, h1, p, h2, yv, h3, vs, h4, n, h5, h6, s', h7, h8⟩ := h
        exact .late t a y av p yv vs n s' (hp.bare i x hx hc) hc ho h1 h2 h3 h4 h5 h6 h7 h8.symm
    · rename_i hl
      have hc : x.x.cl = clsK (kind x.x.o.op P) := by
        rcases hp.cls i x hx with q | q
        · exact q
        · exact absurd (by simp [isLate, q.1]) hl
      cases hk : kind x.x.o.op P with
      | pure f =>
        rw [hk] at h hc
        have h' : ob (f P d.tm) (fun v => some (DS.mk (put d.tm v x.x.o.dst) d.s d.pend d.snaps d.lds d.lss)) = some d' := h
        simp only [ob_some, Option.some.injEq] at h'
        obtain ⟨v, h1, h2⟩ := h'
        exact .pure f v hw hc hk h1 h2.symm
      | read f =>
        rw [hk] at h hc
        have h' : ob (f P d.tm d.s) (fun r => some (DS.mk (put d.tm r.v x.x.o.dst) d.s d.pend d.snaps (⟨x, f, d.tm, r⟩ :: d.lds) d.lss)) = some d' := h
        simp only [ob_some, Option.some.injEq] at h'
        obtain ⟨v, h1, h2⟩ := h'
        exact .read f v hw hc hk h1 h2.symm
      | new f =>
        rw [hk] at h hc
        have h' : ob (f P d.tm d.s.next) (fun r => some (DS.mk (put d.tm r.1 x.x.o.dst) ⟨d.s.heap, d.s.fams, Nat.succ d.s.next, d.s.floor⟩ ((x.x.i, d.s.next, r.2) :: d.pend) d.snaps d.lds d.lss)) = some d' := h
        simp only [ob_some, Option.some.injEq] at h'
        obtain ⟨⟨v, row⟩, h1, h2⟩ := h'
        exact .new f v row hw hc hk h1 h2.symm
      | eff f =>
        rw [hk] at h hc
        have h' : ob (f call P d.tm (merge x.x.bef d.pend d.s)) (fun r => some (DS.mk (put d.tm r.1 x.x.o.dst) r.2 (unpend x.x.bef d.pend) (r.2 :: d.snaps) d.lds d.lss)) = some d' := h
        simp only [ob_some, Option.some.injEq] at h'
        obtain ⟨⟨v, s'⟩, h1, h2⟩ := h'
        exact .eff f v s' hw hc hk h1 h2.symm
      | bad =>
        rw [hk] at h
        have h' : (none : Option DS) = some d' := h
        simp at h'
  · rename_i ht
    have hf : w = false := by simpa using ht
    subst hf
    simp only [Option.some.injEq] at h
    unfold dSkip at h
    rw [bi_eq] at h
    split at h
    · rename_i he
      exact .skipE hw (by simpa [isEff] using he) h.symm
    · rename_i he
      refine .skip hw (fun e => he (by simp [isEff, e])) (fun e => ?_) h.symm
      rw [hp.bare i x hx e] at hw
      simp [want] at hw
/-- a trace -/
structure Trc (P : Program) (call : CallR) (ops : Array Oper) (its : List It) (tm0 : T AV) (s0 : St) (Tr : Nat → DS) : Prop where
  plan : PlanOk P ops its
  zero : Tr 0 = ⟨tm0, s0, [], [s0], [], []⟩
  step : ∀ i x, its[i]? = some x → Stp P call ops x (Tr i) (Tr (i + 1))
theorem dRun_trace {call : CallR} {ops : Array Oper} : ∀ {l : List It} {d d' : DS}, dRun P call ops l d = some d' → ∃ Tr : Nat → DS, Tr 0 = d ∧ Tr l.length = d' ∧ ∀ i x, l[i]? = some x → dItem P call ops x (Tr i) = some (Tr (i + 1))
  | [], d, d', h => by
    have h' : some d = some d' := h
    simp at h'
    exact ⟨fun _ => d, rfl, h', fun i x hx => by simp at hx⟩
  | x :: l, d, d', h => by
    have h' : ob (dItem P call ops x d) (dRun P call ops l) = some d' := h
    rw [ob_some] at h'
    obtain ⟨d1, h1, h2⟩ := h'
    obtain ⟨Tr, k1, k2, k3⟩ := dRun_trace h2
    refine ⟨fun i => match i with
      | 0 => d
      | i + 1 => Tr i, rfl, k2, fun i y hy => ?_⟩
    cases i with
    | zero =>
      simp at hy; subst hy
      show dItem P call ops x d = some (Tr 0)
      rw [k1]; exact h1
    | succ i => exact k3 i y (by simpa using hy)
theorem drawn_trace {call : CallR} {ops : Array Oper} {tm : T AV} {s : St} {r : T AV × St} (h : drawn P call ops tm s = some r) :
    ∃ its Tr, Trc P call ops its tm s Tr ∧ endD P (Tr its.length) = some r := by
  simp only [drawn, ob_some] at h
  obtain ⟨its, h1, d, h2, h3⟩ := h
  obtain ⟨Tr, k1, k2, k3⟩ := dRun_trace h2
  have hp := plan_ok h1
  exact ⟨its, Tr, ⟨hp, k1, fun i x hx => stp_of hp hx (k3 i x hx)⟩, by rw [k2]; exact h3⟩
end Go.Ex
