/- A checked runner of calls that are closed: what a run says of its call holds in every memory, on every schedule (part 4 of 4). No conditions of its own. -/
import Derived.Test.YtcnihampedieaaaGreatDoorExC
import Derived.Lib.UnsafeStr
namespace Go.Ex
variable {sy : Nat → Value} {ρ : Env} {P : Program}

/-! calls that are told beforehand -/
/-- gristmillworld.Number: of an argument that is open its rest is told -/
noncomputable def hNum (res : Nat → Nat → Option Nat) : List AV → St → R := fun args s => match args with
  | [x, .int .i64 m] => match m with
    | .ofNat m => bi ((Nat.ble 1 m).and (Nat.ble m 1000000)) (match x with
      | .sym j => ob (res j m) fun r => some (.int .i64 (Int.ofNat r), s)
      | .int .i64 a => some (.int .i64 (Int.emod a (Int.ofNat m)), s)
      | _ => none) none
    | _ => none
  | _ => none
theorem hNum_ok {fN : FuncId} {xs : Nat → Int} {res : Nat → Nat → Option Nat} (hN : ∀ (x m : Int), 0 < m → m ≤ 1000000 → ∀ w, Calls P fN #[.int .i64 x, .int .i64 m] w fun e w' => e = .returned (.int .i64 (x % m)) ∧ w = w')
    (hE : Enters P fN) (hsy : ∀ j m r, res j m = some r → sy j = .int .i64 (xs j)) (hres : ∀ j m r, res j m = some r → xs j % (m : Int) = (r : Int)) : OvOk sy P (T.set .E fN (hNum res)) := by
  have hinv : ∀ args s v s', hNum res args s = some (v, s') → ∃ x m, args = [x, .int .i64 (Int.ofNat m)] ∧ 1 ≤ m ∧ m ≤ 1000000 ∧ s' = s ∧ ((∃ j r, x = .sym j ∧ res j m = some r ∧ v = .int .i64 (Int.ofNat r)) ∨ ∃ a, x = .int .i64 a ∧ v = .int .i64 (Int.emod a (Int.ofNat m))) := by
    intro args s v s' h
    unfold hNum at h
    split at h
    · rename_i x m
      split at h
      · rename_i m
        rw [bi_some, and_true'] at h
        obtain ⟨⟨h1, h2⟩, h3⟩ := h
        refine ⟨x, m, rfl, by simpa using h1, by simpa using h2, ?_⟩
        split at h3
        · rename_i j
          simp only [ob_some, Option.some.injEq, Prod.mk.injEq] at h3
          obtain ⟨r, g1, g2, g3⟩ := h3
          exact ⟨g3.symm, .inl ⟨j, r, rfl, g1, g2.symm⟩⟩
        · rename_i a
          simp only [Option.some.injEq, Prod.mk.injEq] at h3
          exact ⟨h3.2.symm, .inr ⟨a, rfl, h3.1.symm⟩⟩
        · simp at h3
      · simp at h
    · simp at h
  have hget : ∀ f h, (T.set .E fN (hNum res) : OV).get f = some h → f = fN ∧ h = hNum res := by
    intro f h e
    rw [T.get_set] at e
    split at e
    · rename_i ef; simp at e; exact ⟨ef, e.symm⟩
    · rw [T.get_E] at e; simp at e
  refine ⟨fun f h e ρ args s s' v w vs hS hl hfr hh => ?_, fun f h e => by rw [(hget f h e).1]; exact hE, fun f h e args s v s' hh => ?_⟩
  · obtain ⟨rfl, rfl⟩ := hget f h e
    obtain ⟨x, m, rfl, h1, h2, rfl, hx⟩ := hinv _ _ _ _ hh
    have hl' := hl
    obtain ⟨u, q, e1, k1, k2⟩ := hl
    obtain ⟨u2, q2, e2, k3, k4⟩ := k2
    have hq2 : q2 = [] := k4
    have hu2 : u2 = .int .i64 (m : Int) := k3
    subst hq2; subst hu2; subst e2
    have hvs : vs = #[u, .int .i64 (m : Int)] := by
      apply Array.ext'
      simpa using e1
    rw [hvs]
    have key : ∀ a : Int, u = .int .i64 a → a % (m : Int) = (match v with | .int _ z => z | _ => 0) → (∃ z, v = .int .i64 z) → Calls P f #[u, .int .i64 (m : Int)] w fun e w' => ∃ ρ' y, e = .returned y ∧ Out sy ρ s' w ρ' s' w' ∧ V sy ρ' v y := by
      rintro a rfl ha ⟨z, rfl⟩
      refine (hN a m (by omega) (by omega) w).mono fun e w' ⟨g1, g2⟩ => ?_
      subst g2
      exact ⟨ρ, _, g1, .refl hS, by show _ = _; rw [ha]⟩
    rcases hx with ⟨j, r, rfl, g1, rfl⟩ | ⟨a, rfl, rfl⟩
    · have hu : u = sy j ∧ Flat u := k1
      exact key (xs j) (by rw [hu.1, hsy j m r g1]) (hres j m r g1) ⟨_, rfl⟩
    · exact key a k1 rfl ⟨_, rfl⟩
  · obtain ⟨-, rfl⟩ := hget f h e
    obtain ⟨x, m, rfl, h1, h2, rfl, hx⟩ := hinv _ _ _ _ hh
    exact Nat.le_refl _
/-- the rests that are told -/
noncomputable def rests (l : List (Nat × Nat × Nat)) (j m : Nat) : Option Nat :=
  List.rec (motive := fun _ => Option Nat) none (fun x _ ih => bi ((Nat.beq x.1 j).and (Nat.beq x.2.1 m)) (some x.2.2) ih) l
theorem rests_ok {xs : Nat → Int} : ∀ {l : List (Nat × Nat × Nat)}, (∀ x ∈ l, xs x.1 % (x.2.1 : Int) = (x.2.2 : Int)) → ∀ j m r, rests l j m = some r → xs j % (m : Int) = (r : Int)
  | [], _, j, m, r, h => by
    have h' : (none : Option Nat) = some r := h
    simp at h'
  | x :: l, hl, j, m, r, h => by
    have h' : bi ((Nat.beq x.1 j).and (Nat.beq x.2.1 m)) (some x.2.2) (rests l j m) = some r := h
    rw [bi_eq] at h'
    split at h'
    · rename_i hb
      rw [and_true'] at hb
      have e1 : x.1 = j := Nat.eq_of_beq_eq_true hb.1
      have e2 : x.2.1 = m := Nat.eq_of_beq_eq_true hb.2
      simp at h'
      rw [← e1, ← e2, ← h']
      exact hl x (by simp)
    · exact rests_ok (fun y hy => hl y (List.mem_cons_of_mem _ hy)) j m r h'
/-- did it answer true? -/
def tru : AV → Bool
  | .bool b => b
  | _ => false
noncomputable def isT (r : R) : Bool := Option.rec (motive := fun _ => Bool) false (fun p => tru p.1) r
theorem isT_some {r : R} (h : isT r = true) : ∃ s', r = some (.bool true, s') := by
  cases r with
  | none => cases h
  | some p =>
    obtain ⟨v, s'⟩ := p
    have h' : tru v = true := h
    unfold tru at h'
    split at h'
    · subst h'; exact ⟨s', rfl⟩
    · simp at h'
end Go.Ex

namespace Go.Ex
variable {sy : Nat → Value} {ρ : Env} {P : Program}
open Go.RowKit

/-- What is known of memory is known still where nothing old has turned. -/
theorem SatS.below {s : St} {w w' : World} (h : SatS sy ρ s w) (hb : Below w.heap.size w w') : SatS sy ρ s w' := by
  refine ⟨⟨fun id r hr => ?_, h.sat.sep, h.sat.fams, h.sat.ends, h.sat.pmem, h.sat.exfam, h.sat.glob⟩, h.wf, h.fln⟩
  obtain ⟨pl, g1, g2, g3, g4⟩ := h.sat.rows id r hr
  obtain ⟨el, hsh⟩ := g4.shape
  exact ⟨pl, g1, g2, g3, g4.same (hb.block _ (lt_of_shape hsh)) (fun x => x) (fun _ _ x => x)⟩
theorem Out.below {s : St} {w w' : World} (h : SatS sy ρ s w) (hb : Below w.heap.size w w') : Out sy ρ s w ρ s w' :=
  ⟨.refl s, ⟨hb.size, hb.os, hb.tape, hb.output, fun b hlt _ => hb.block b hlt, fun _ _ h => h, fun i q h h' => by rw [h'] at h; simp at h⟩, h.below hb⟩

/-- One more function that is told beforehand. -/
theorem OvOk.set {ov : OV} (ho : OvOk sy P ov) {f : FuncId} {hd : List AV → St → R}
    (ok : ∀ (ρ : Env) (args : List AV) (s s' : St) (v : AV) (w : World) (vs : Array Value), SatS sy ρ s w → VL sy ρ args vs.toList → Fresh ρ s.next s'.next → hd args s = some (v, s') →
      Calls P f vs w fun e w' => ∃ ρ' u, e = .returned u ∧ Out sy ρ s w ρ' s' w' ∧ V sy ρ' v u)
    (hE : Enters P f) (gr : ∀ args s v s', hd args s = some (v, s') → s.next ≤ s'.next) : OvOk sy P (T.set ov f hd) := by
  refine ⟨fun g h e ρ args s s' v w vs => ?_, fun g h e => ?_, fun g h e => ?_⟩
  all_goals
    rw [T.get_set] at e
    split at e
  · rename_i ef; subst ef; obtain rfl : hd = h := by simpa using e
    exact ok ρ args s s' v w vs
  · exact ho.ok g h e ρ args s s' v w vs
  · rename_i ef; subst ef; exact hE
  · exact ho.enters g h e
  · rename_i ef; subst ef; obtain rfl : hd = h := by simpa using e
    exact gr
  · exact ho.grows g h e

/-- strings.Clone: the text itself. -/
noncomputable def hClone : List AV → St → R := fun args s => match args with
  | [x] => match x with
    | .str n b => bi (Nat.ble n 281474976710656) (some (.str n b, s)) none
    | _ => none
  | _ => none
theorem hClone_ok {ov : OV} (ho : OvOk sy P ov) {f : FuncId} (hC : ∀ (s : ByteArray) (w : World), s.size ≤ 281474976710656 → Calls P f #[.string s] w fun e w' => e = .returned (.string s) ∧ Below w.heap.size w w') (hE : Enters P f) : OvOk sy P (T.set ov f hClone) := by
  have hinv : ∀ args s v s', hClone args s = some (v, s') → ∃ n b, args = [.str n b] ∧ n ≤ 281474976710656 ∧ v = .str n b ∧ s' = s := by
    intro args s v s' h
    unfold hClone at h
    split at h
    · split at h
      · rename_i n b
        rw [bi_some] at h
        obtain ⟨h1, h2⟩ := h
        simp only [Option.some.injEq, Prod.mk.injEq] at h2
        exact ⟨n, b, rfl, by simpa using h1, h2.1.symm, h2.2.symm⟩
      · simp at h
    · simp at h
  refine ho.set (fun ρ args s s' v w vs hS hl hfr hh => ?_) hE (fun args s v s' hh => ?_)
  · obtain ⟨n, b, rfl, h1, rfl, rfl⟩ := hinv _ _ _ _ hh
    obtain ⟨u, q, e1, k1, k2⟩ := hl
    have hq : q = [] := k2
    subst hq
    obtain ⟨t, rfl, k3, k4⟩ := k1
    have hvs : vs = #[.string t] := by
      apply Array.ext'
      simpa using e1
    rw [hvs]
    have hsz : t.size ≤ 281474976710656 := by rw [← k3] at h1; simpa using h1
    refine (hC t w hsz).mono fun e w' ⟨g1, g2⟩ => ?_
    exact ⟨ρ, _, g1, .below hS g2, ⟨t, rfl, k3, k4⟩⟩
  · obtain ⟨n, b, rfl, h1, rfl, rfl⟩ := hinv _ _ _ _ hh
    exact Nat.le_refl _
end Go.Ex

namespace Go.Ex
variable {sy : Nat → Value} {ρ : Env} {P : Program}
open Go.RowKit

/-! package strings' Builder: two of its calls are told beforehand -/
theorem freeze_facts (w : World) (a : Addr) (n : Nat) : (w.freeze a n).heap.size = w.heap.size ∧ (w.freeze a n).os = w.os ∧ (w.freeze a n).tape = w.tape ∧ (w.freeze a n).output = w.output ∧
    (∀ b, b ≠ a.block → (w.freeze a n).heap[b]? = w.heap[b]?) ∧ (∀ b, (w.freeze a n).shape? b = w.shape? b) := by
  unfold World.freeze
  split
  · exact ⟨rfl, rfl, rfl, rfl, fun _ _ => rfl, fun _ => rfl⟩
  · refine ⟨by simp, rfl, rfl, rfl, fun b hb => ?_, fun b => ?_⟩
    · simp only [Array.getElem?_modify]
      rw [if_neg (by omega)]
    · unfold World.shape?
      simp only [Array.getElem?_modify]
      by_cases e : a.block = b
      · rw [if_pos e]
        cases w.heap[b]? with
        | none => rfl
        | some o => cases o <;> rfl
      · rw [if_neg e]

/-- rows that may be read no more -/
noncomputable def killR (s : St) (i : Nat) (row : Row) : Option St := match row.fam with
  | 0 => match s.fams.get s.next with
    | none => some ⟨s.heap.set i ⟨s.next, row.exact, row.sz, row.cs, row.ty⟩, s.fams.set s.next [], Nat.succ s.next, s.floor⟩
    | some _ => none
  | f => some ⟨s.heap, s.fams.set f [], s.next, s.floor⟩

theorem kill_sat {H H' : HV} {F F' : FV} {fl : Nat} {w w' : World} {i f : Nat} {r : VRow} {pl : Pl} (h : Sat sy ρ H F fl w) (hr : H i = some r) (hp : ρ i = some pl) (hfl : fl ≤ i) (hex : r.exact = false) (hf : f ≠ 0)
    (hi : r.fam = f ∨ (r.fam = 0 ∧ F f = none)) (hH : ∀ j, H' j = if j = i then some ⟨f, r.exact, r.sz, r.cell, r.ty⟩ else H j) (hF : ∀ g, F' g = if g = f then some [] else F g)
    (hmem : ∀ b, b ≠ pl.blk → w'.heap[b]? = w.heap[b]?) (hsh : ∀ b, w'.shape? b = w.shape? b) : Sat sy ρ H' F' fl w' := by
  have noF : ∀ j, ¬ Rdb F' j f := by
    rintro j (h0 | ⟨l, h1, e, h2⟩)
    · exact hf h0
    · rw [hF, if_pos rfl] at h1
      simp at h1; subst h1; simp at h2
  have hot : ∀ j q, j ≠ i → H' j = some q → H j = some q := fun j q hj hq => by rw [hH, if_neg hj] at hq; exact hq
  have hself : ∀ q, H' i = some q → q = ⟨f, r.exact, r.sz, r.cell, r.ty⟩ := fun q hq => by rw [hH, if_pos rfl] at hq; simpa using hq.symm
  have hback : ∀ j g, Rdb F' j g → Rdb F j g := by
    rintro j g (h0 | ⟨l, h1, h2⟩)
    · exact .inl h0
    · rw [hF] at h1
      split at h1
      · simp at h1; subst h1; obtain ⟨e, h2⟩ := h2; simp at h2
      · exact .inr ⟨l, h1, h2⟩
  have hsame : ∀ j q pj, j ≠ i → H j = some q → ρ j = some pj → pj.blk = pl.blk → q.fam = f := by
    intro j q pj hj hq hpj hb
    obtain ⟨_, _, s3, s4, _⟩ := (h.sep j i q r pj pl hj hq hr hpj hp hb).resolve_left fun x => absurd hfl (Nat.not_le_of_lt x.2.1)
    rcases hi with g | ⟨g, _⟩
    · rw [s3, g]
    · exact absurd (s3.trans g) s4
  have hfamF : ∀ j q, H j = some q → q.fam = f → r.fam = f := by
    intro j q hq hqf
    rcases hi with g | ⟨g, g2⟩
    · exact g
    · obtain ⟨p, hp'⟩ := h.fams j q hq (by rw [hqf]; exact hf)
      rw [hqf, g2] at hp'; simp at hp'
  refine ⟨fun j q hq => ?_, fun j k rj rk pj pk hjk hj hk hpj hpk hb => ?_, fun j q hq hn => ?_, fun j q hq hn l hl e he => ?_, fun g l hl j hj => ?_, fun j q hq he => ?_, h.glob⟩
  · by_cases e : j = i
    · subst e
      have := hself q hq; subst this
      obtain ⟨pl', g1, g2, g3, g4⟩ := h.rows j r hr
      rw [hp] at g1; simp at g1; subst g1
      exact ⟨pl, hp, g2, g3, ⟨by rw [hsh]; exact g4.shape, fun _ hq => absurd hq (noF j), fun he => by rw [hex] at he; simp at he, fun _ _ _ hq => absurd hq (noF j), fun x hx => g4.typ x (by rw [← hsh]; exact hx)⟩⟩
    · have hq0 := hot j q e hq
      obtain ⟨pj, g1, g2, g3, g4⟩ := h.rows j q hq0
      refine ⟨pj, g1, g2, g3, ?_⟩
      by_cases hb : pj.blk = pl.blk
      · have hqf := hsame j q pj e hq0 g1 hb
        refine ⟨by rw [hsh]; exact g4.shape, fun _ hq => ?_, fun he => ?_, fun _ _ _ hq => ?_, fun x hx => g4.typ x (by rw [← hsh]; exact hx)⟩
        · rw [hqf] at hq; exact absurd hq (noF j)
        · have := h.exfam j q hq0 he
          rw [hqf] at this; exact absurd this hf
        · rw [hqf] at hq; exact absurd hq (noF j)
      · exact g4.same (hmem _ hb) (hback j q.fam) (fun _ _ x => x)
  · have key : ∀ a q, H' a = some q → ∃ q', H a = some q' ∧ (q'.fam = q.fam ∨ (a = i ∧ q'.fam = 0 ∧ q.fam = f)) := by
      intro a q hq
      by_cases e : a = i
      · subst e
        have := hself q hq; subst this
        refine ⟨r, hr, ?_⟩
        rcases hi with g | ⟨g, _⟩
        · exact .inl g
        · exact .inr ⟨rfl, g, rfl⟩
      · exact ⟨q, hot a q e hq, .inl rfl⟩
    obtain ⟨qj, a1, a2⟩ := key j rj hj
    obtain ⟨qk, b1, b2⟩ := key k rk hk
    rcases h.sep j k qj qk pj pk hjk a1 b1 hpj hpk hb with x | ⟨s1, s2, s3, s4, s5⟩
    · exact .inl x
    · rcases a2 with a2 | ⟨_, a3, _⟩
      · rcases b2 with b2 | ⟨_, b3, _⟩
        · refine .inr ⟨s1, s2, by rw [← a2, ← b2]; exact s3, by rw [← a2]; exact s4, fun l hl hoj hok => ?_⟩
          rw [hF] at hl
          split at hl
          · simp at hl; subst hl; obtain ⟨e, he⟩ := hoj; simp at he
          · rw [← a2] at hl; exact s5 l hl hoj hok
        · exact absurd (s3.trans b3) s4
      · exact absurd a3 s4
  · rw [hF]
    split
    · exact ⟨_, rfl⟩
    · rename_i hne
      by_cases e : j = i
      · subst e
        have := hself q hq; subst this
        exact absurd rfl hne
      · exact h.fams j q (hot j q e hq) hn
  · rw [hF] at hl
    split at hl
    · simp at hl; subst hl; simp at he
    · rename_i hne
      by_cases e' : j = i
      · subst e'
        have := hself q hq; subst this
        exact absurd rfl hne
      · exact h.ends j q (hot j q e' hq) hn l hl e he
  · rw [hF] at hl
    split at hl
    · simp at hl; subst hl; obtain ⟨e, he⟩ := hj; simp at he
    · exact h.pmem g l hl j hj
  · by_cases e : j = i
    · subst e
      have := hself q hq; subst this
      rw [hex] at he; simp at he
    · exact h.exfam j q (hot j q e hq) he
theorem kill_out {s s' : St} {w w' : World} {i : Nat} {row : Row} {pl : Pl} (hS : SatS sy ρ s w) (hr : s.heap.get i = some row) (hp : ρ i = some pl) (hfl : s.floor ≤ i) (hex : row.exact = false) (hk : killR s i row = some s') (hn0 : s.next ≠ 0)
    (hsize : w'.heap.size = w.heap.size) (hos : w'.os = w.os) (htape : w'.tape = w.tape) (hout : w'.output = w.output) (hmem : ∀ b, b ≠ pl.blk → w'.heap[b]? = w.heap[b]?) (hsh : ∀ b, w'.shape? b = w.shape? b) : Out sy ρ s w ρ s' w' := by
  have fr : s.next ≤ s'.next → Fr ρ ρ s s' w w' := fun _ => ⟨Nat.le_of_eq hsize.symm, hos, htape, hout, fun b hb ho => hmem b (fun e => ho ⟨i, row, pl, hfl, hr, hp, e.symm⟩), fun _ _ k => k, fun j q k k' => by rw [k'] at k; simp at k⟩
  unfold killR at hk
  split at hk
  · rename_i h0
    split at hk
    · rename_i hF
      simp at hk; subst hk
      have hnone : ∀ j, s.heap.get j = none → j ≠ i := fun j hj e => by rw [e, hr] at hj; simp at hj
      refine ⟨⟨Nat.le_succ _, rfl, fun j hj _ => ?_⟩, fr (Nat.le_succ _), ⟨?_, fun j r hj q ch hq => ?_, Nat.le_succ_of_le hS.fln⟩⟩
      · show (s.heap.set i _).get j = none
        rw [T.get_set, if_neg (hnone j hj)]; exact hj
      · refine kill_sat (f := s.next) hS.sat (hv_some.2 ⟨row, hr, rfl⟩) hp hfl hex hn0 (.inr ⟨h0, hF⟩) (fun j => ?_) (fun g => ?_) hmem hsh
        · unfold St.hv
          rw [T.get_set]
          split <;> rfl
        · exact T.get_set _ _ _ _
      · have hj' : (s.heap.set i ⟨s.next, row.exact, row.sz, row.cs, row.ty⟩).get j = some r := hj
        rw [T.get_set] at hj'
        split at hj'
        · simp at hj'; subst hj'; exact hS.wf i row hr q ch hq
        · exact hS.wf j r hj' q ch hq
    · simp at hk
  · rename_i f hf
    simp at hk; subst hk
    refine ⟨⟨Nat.le_refl _, rfl, fun j hj _ => hj⟩, fr (Nat.le_refl _), ⟨?_, hS.wf, hS.fln⟩⟩
    refine kill_sat (f := row.fam) hS.sat (hv_some.2 ⟨row, hr, rfl⟩) hp hfl hex hf (.inl rfl) (fun j => ?_) (fun g => ?_) hmem hsh
    · show s.hv j = _
      split
      · rename_i e; subst e; exact hv_some.2 ⟨row, hr, rfl⟩
      · rfl
    · exact T.get_set _ _ _ _

/-- what is known of package strings' Builder in a program: tb its type, tu that of bytes -/
structure BldOk (P : Program) (fC fS : FuncId) (tb tu : Nat) : Prop where
  fresh : ∀ b w, w.cell? ⟨b, 0, none⟩ = some (.pointer none) → w.shape? b = some (tb, 2) → w.frozen? ⟨b, 0, none⟩ = false →
    Calls P fC #[.pointer (some ⟨b, 0, none⟩)] w fun e w' => e = .returned (.tuple #[]) ∧ w' = w.setCell ⟨b, 0, none⟩ (.pointer (some ⟨b, 0, none⟩))
  used : ∀ b w, w.cell? ⟨b, 0, none⟩ = some (.pointer (some ⟨b, 0, none⟩)) → Calls P fC #[.pointer (some ⟨b, 0, none⟩)] w fun e w' => e = .returned (.tuple #[]) ∧ w' = w
  nil : ∀ b w, w.cell? ⟨b, 1, none⟩ = some (.slice none 0 0) → Calls P fS #[.pointer (some ⟨b, 0, none⟩)] w fun e w' => e = .returned (.string .empty) ∧ Below w.heap.size w w'
  row : ∀ b g c cells (l : List UInt8) w, w.cell? ⟨b, 1, none⟩ = some (.slice (some ⟨g, 0, none⟩) l.length c) → w.shape? g = some (tu, cells) → l ≠ [] → l.length ≤ cells → l.length ≤ 1000000000 → l.length ≤ c →
    (∀ j x, l[j]? = some x → w.cell? ((⟨g, 0, none⟩ : Addr).add j) = some (.int .u8 (x.toNat : Int))) → Calls P fS #[.pointer (some ⟨b, 0, none⟩)] w fun e w' => e = .returned (.string ⟨l.toArray⟩) ∧ w' = w.drew.freeze ⟨g, 0, none⟩ l.length
  enC : Enters P fC
  enS : Enters P fS
noncomputable def copyR (s : St) (id : Nat) (l : List AV) : R := match l with
  | [y] => match y with
    | .nilp => ob (storeC s id 0 [.ptr id 0]) fun s' => some (.tup [], s')
    | .ptr i o => bi ((Nat.beq i id).and (Nat.beq o 0)) (some (.tup [], s)) none
    | _ => none
  | _ => none
noncomputable def hCopy (tb : Nat) : List AV → St → R := fun args s => match args with
  | [x] => match x with
    | .ptr id off => bi (Nat.beq off 0) (ob (loadC s id 0 1) fun l => ob (s.heap.get id) fun row => bi ((Nat.beq row.ty (Nat.succ tb)).and (row.exact.and ((Nat.beq row.sz 2).and (readable s id row.fam)))) (copyR s id l) none) none
    | _ => none
  | _ => none
noncomputable def strR (tu : Nat) (s : St) (l : List AV) : R := match l with
  | [y] => match y with
    | .nils => some (.str 0 0, s)
    | .slc i o n _ _ => bi ((Nat.blt 0 n).and (Nat.ble n 1000000000)) (ob (s.heap.get i) fun row => ob (elemsN s 1 i o n) fun l => ob (packL l) fun b =>
        bi ((Nat.beq o 0).and ((Nat.beq row.ty (Nat.succ tu)).and ((Nat.ble s.floor i).and ((row.exact.not).and (Nat.blt 0 s.next))))) (ob (killR s i row) fun s' => some (.str n b, s')) none) none
    | _ => none
  | _ => none
noncomputable def hStr (tb tu : Nat) : List AV → St → R := fun args s => match args with
  | [x] => match x with
    | .ptr id off => bi (Nat.beq off 0) (ob (loadC s id 1 1) fun l => ob (s.heap.get id) fun row => bi ((Nat.beq row.ty (Nat.succ tb)).and row.exact) (strR tu s l) none) none
    | _ => none
  | _ => none

theorem one_arg {x : AV} {vs : Array Value} (h : VL sy ρ [x] vs.toList) : ∃ u, vs = #[u] ∧ V sy ρ x u := by
  obtain ⟨u, q, e1, k1, k2⟩ := h
  have hq : q = [] := k2
  subst hq
  exact ⟨u, by apply Array.ext'; simpa using e1, k1⟩
/-- where a builder lies -/
theorem bld_at {s : St} {w : World} {id : Nat} {row : Row} {tb : Nat} (hS : SatS sy ρ s w) (hr : s.heap.get id = some row) (hty : row.ty = tb + 1) (hex : row.exact = true) :
    ∃ pl, ρ id = some pl ∧ pl.base = 0 ∧ pl.size = row.sz ∧ w.shape? pl.blk = some (tb, pl.size) ∧ ∀ o, w.frozen? ⟨pl.blk, o, none⟩ = false := by
  obtain ⟨pl, g1, g2, g3, g4⟩ := hS.sat.rows id row.v (hv_some.2 ⟨row, hr, rfl⟩)
  obtain ⟨el, hsh⟩ := g4.shape
  rcases g4.typ _ hsh with q | ⟨q, q2⟩
  · have : row.ty = 0 := q
    omega
  · have q' : row.ty = el + 1 := q
    have : el = tb := Nat.succ.inj (q'.symm.trans hty)
    subst this
    exact ⟨pl, g1, q2.1, q2.2 hex, hsh, g4.plain hex⟩
theorem range_one {w : World} {b o : Nat} {v : Value} (h : w.rangeAt b o [v]) : w.cell? ⟨b, o, none⟩ = some v := by
  have := h 0 v rfl
  simpa using this
theorem hCopy_ok {ov : OV} {fC fS : FuncId} {tb tu : Nat} (ho : OvOk sy P ov) (hB : BldOk P fC fS tb tu) : OvOk sy P (T.set ov fC (hCopy tb)) := by
  have hinv : ∀ args s v s', hCopy tb args s = some (v, s') → ∃ id l row, args = [.ptr id 0] ∧ loadC s id 0 1 = some l ∧ s.heap.get id = some row ∧ row.ty = tb + 1 ∧ row.exact = true ∧ row.sz = 2 ∧ v = .tup [] ∧
      ((l = [.nilp] ∧ storeC s id 0 [.ptr id 0] = some s') ∨ (l = [.ptr id 0] ∧ s' = s)) := by
    intro args s v s' h
    unfold hCopy at h
    split at h
    · split at h
      · rename_i id off
        simp only [bi_some, ob_some] at h
        obtain ⟨h1, l, h2, row, h3, h4, h5⟩ := h
        simp at h1 h4
        subst h1
        refine ⟨id, l, row, rfl, h2, h3, h4.1, h4.2.1, h4.2.2.1, ?_⟩
        unfold copyR at h5
        split at h5
        · split at h5
          · simp only [ob_some] at h5
            obtain ⟨s1, k1, k2⟩ := h5
            simp at k2
            exact ⟨k2.1.symm, .inl ⟨rfl, by rw [← k2.2]; exact k1⟩⟩
          · rename_i i o
            rw [bi_some] at h5
            obtain ⟨k1, k2⟩ := h5
            simp at k1 k2
            rw [k1.1, k1.2]
            exact ⟨k2.1.symm, .inr ⟨rfl, k2.2.symm⟩⟩
          · simp at h5
        · simp at h5
      · simp at h
    · simp at h
  refine ho.set (fun ρ args s s' v w vs hS hl hfr hh => ?_) hB.enC (fun args s v s' hh => ?_)
  · obtain ⟨id, l, row, rfl, h1, h2, h3, h4, h5, rfl, h6⟩ := hinv _ _ _ _ hh
    obtain ⟨u, rfl, k1⟩ := one_arg hl
    obtain ⟨pl, g1, g2, g3, g4, g5⟩ := bld_at hS h2 h3 h4
    obtain ⟨pl', e1, e2⟩ := k1
    rw [g1] at e1; simp at e1; subst e1
    rw [g2] at e2
    subst e2
    obtain ⟨pl', vs, e1, q1, q2, q3, q4⟩ := loadC_at hS h1
    rw [g1] at e1; simp at e1; subst e1
    rw [g2] at q4
    rcases h6 with ⟨rfl, h6⟩ | ⟨rfl, rfl⟩
    · obtain ⟨y, r, rfl, m1, m2⟩ := q1
      have hr : r = [] := m2
      subst hr
      have hy : y = .pointer none := m1
      subst hy
      have hc := range_one q4
      refine (hB.fresh _ w hc (by rw [g4, g3, h5]) (g5 0)).mono fun e w' ⟨x1, x2⟩ => ?_
      obtain ⟨pl', e1, e2, e3, e4⟩ := storeC_out (us := [.pointer (some ⟨pl.blk, 0, none⟩)]) hS h6 ⟨_, [], rfl, ⟨pl, g1, by rw [g2]⟩, rfl⟩ (by intro u hu; simp at hu; subst hu; trivial)
      rw [g1] at e1; simp at e1; subst e1
      rw [g2] at e3
      refine ⟨ρ, _, x1, ?_, ⟨#[], rfl, rfl⟩⟩
      rw [x2]
      exact e3
    · obtain ⟨y, r, rfl, m1, m2⟩ := q1
      have hr : r = [] := m2
      subst hr
      obtain ⟨pl', e1, e2⟩ := m1
      rw [g1] at e1; simp at e1; subst e1
      rw [g2] at e2
      subst e2
      have hc := range_one q4
      refine (hB.used _ w hc).mono fun e w' ⟨x1, x2⟩ => ?_
      subst x2
      exact ⟨ρ, _, x1, .refl hS, ⟨#[], rfl, rfl⟩⟩
  · obtain ⟨id, l, row, rfl, h1, h2, h3, h4, h5, rfl, h6⟩ := hinv _ _ _ _ hh
    rcases h6 with ⟨_, h6⟩ | ⟨_, rfl⟩
    · exact Nat.le_of_eq (storeC_next h6).symm
    · exact Nat.le_refl _
theorem killR_next {s s' : St} {i : Nat} {row : Row} (h : killR s i row = some s') : s.next ≤ s'.next := by
  unfold killR at h
  split at h
  · split at h
    · simp at h; subst h; exact Nat.le_succ _
    · simp at h
  · simp at h; subst h; exact Nat.le_refl _
theorem hStr_ok {ov : OV} {fC fS : FuncId} {tb tu : Nat} (ho : OvOk sy P ov) (hB : BldOk P fC fS tb tu) : OvOk sy P (T.set ov fS (hStr tb tu)) := by
  have hinv : ∀ args s v s', hStr tb tu args s = some (v, s') → ∃ id l row, args = [.ptr id 0] ∧ loadC s id 1 1 = some l ∧ s.heap.get id = some row ∧ row.ty = tb + 1 ∧ row.exact = true ∧
      ((l = [.nils] ∧ v = .str 0 0 ∧ s' = s) ∨ ∃ i n c z rw' els b, l = [.slc i 0 n c z] ∧ 0 < n ∧ n ≤ 1000000000 ∧ s.heap.get i = some rw' ∧ elemsN s 1 i 0 n = some els ∧ packL els = some b ∧ rw'.ty = tu + 1 ∧ s.floor ≤ i ∧ rw'.exact = false ∧ 0 < s.next ∧ killR s i rw' = some s' ∧ v = .str n b) := by
    intro args s v s' h
    unfold hStr at h
    split at h
    · split at h
      · rename_i id off
        simp only [bi_some, ob_some] at h
        obtain ⟨h1, l, h2, row, h3, h4, h5⟩ := h
        simp at h1 h4
        subst h1
        refine ⟨id, l, row, rfl, h2, h3, h4.1, h4.2, ?_⟩
        unfold strR at h5
        split at h5
        · split at h5
          · simp at h5
            exact .inl ⟨rfl, h5.1.symm, h5.2.symm⟩
          · rename_i i o n c z
            simp only [bi_some, ob_some] at h5
            obtain ⟨k1, rw', k2, els, k3, b, k4, k5, s1, k6, k7⟩ := h5
            simp at k1 k5 k7
            obtain ⟨k0, k5⟩ := k5
            subst k0
            exact .inr ⟨i, n, c, z, rw', els, b, rfl, k1.1, k1.2, k2, k3, k4, k5.1, k5.2.1, k5.2.2.1, k5.2.2.2, by rw [← k7.2]; exact k6, k7.1.symm⟩
          · simp at h5
        · simp at h5
      · simp at h
    · simp at h
  refine ho.set (fun ρ args s s' v w vs hS hl hfr hh => ?_) hB.enS (fun args s v s' hh => ?_)
  · obtain ⟨id, l, row, rfl, h1, h2, h3, h4, h6⟩ := hinv _ _ _ _ hh
    obtain ⟨u, rfl, k1⟩ := one_arg hl
    obtain ⟨pl, g1, g2, g3, g4, g5⟩ := bld_at hS h2 h3 h4
    obtain ⟨pl', e1, e2⟩ := k1
    rw [g1] at e1; simp at e1; subst e1
    rw [g2] at e2
    subst e2
    obtain ⟨pl', vs, e1, q1, q2, q3, q4⟩ := loadC_at hS h1
    rw [g1] at e1; simp at e1; subst e1
    rw [g2] at q4
    rcases h6 with ⟨rfl, rfl, rfl⟩ | ⟨i, n, c, z, rw', els, b, rfl, n0, n9, r1, r2, r3, r4, r5, r6, r7, r8, rfl⟩
    · obtain ⟨y, r, rfl, m1, m2⟩ := q1
      have hr : r = [] := m2
      subst hr
      have hy : y = .slice none 0 0 := m1
      subst hy
      have hc := range_one q4
      refine (hB.nil _ w hc).mono fun e w' ⟨x1, x2⟩ => ?_
      exact ⟨ρ, _, x1, .below hS x2, ⟨.empty, rfl, rfl, rfl⟩⟩
    · obtain ⟨y, r, rfl, m1, m2⟩ := q1
      have hr : r = [] := m2
      subst hr
      obtain ⟨pb, c', o', b1, b2, b3, b4⟩ := m1
      subst b4
      have hc := range_one q4
      obtain ⟨ws, c1, c2⟩ := elemsN_at hS r2
      obtain ⟨pb', d1, d2, d3⟩ := c2 (by omega)
      rw [b1] at d1; simp at d1; subst d1
      have ho' := b3 (by have := b2.1; have := b2.2.1; omega)
      subst ho'
      obtain ⟨us, u1, u2, u3⟩ := packL_inv r3 c1.vals
      have hul : us.length = n := by rw [u2, c1.len]
      subst hul
      obtain ⟨pb', v1, v2, v3, v4⟩ := hS.sat.rows i rw'.v (hv_some.2 ⟨rw', r1, rfl⟩)
      rw [b1] at v1; simp at v1; subst v1
      obtain ⟨el, hsh⟩ := v4.shape
      obtain ⟨hU, hbase⟩ : el = tu ∧ pb.base = 0 := by
        rcases v4.typ _ hsh with q | ⟨q, q2, _⟩
        · have : rw'.ty = 0 := q
          omega
        · have : rw'.ty = el + 1 := q
          exact ⟨Nat.succ.inj (this.symm.trans r4), q2⟩
      subst hU
      have hcell : ∀ j x, us[j]? = some x → w.cell? ⟨pb.blk, j, none⟩ = some (.int .u8 (x.toNat : Int)) := by
        intro j x hj
        have := d3 j (.int .u8 (x.toNat : Int)) (by rw [u1, List.getElem?_map, hj]; rfl)
        simpa [hbase] using this
      have hlast : us.length ≤ pb.size := by
        have hj : us.length - 1 < us.length := by omega
        have := hcell (us.length - 1) _ (List.getElem?_eq_getElem hj)
        have h2 := (cell_of_shape hsh _).1 (by rw [this]; rfl)
        omega
      have hle : us.length ≤ c' := Nat.le_trans b2.1 b2.2.1
      obtain ⟨f1, f2, f3, f4, f5, f6⟩ := freeze_facts w.drew ⟨pb.blk, 0, none⟩ us.length
      refine (hB.row pl.blk pb.blk c' pb.size us w (by simpa [hbase] using hc) hsh (by intro e; rw [e] at n0; simp at n0) hlast n9 hle (fun j x hj => by
        have e : (⟨pb.blk, 0, none⟩ : Addr).add j = ⟨pb.blk, j, none⟩ := by unfold Addr.add; split <;> simp_all
        rw [e]; exact hcell j x hj)).mono fun e w' ⟨x1, x2⟩ => ?_
      subst x2
      exact ⟨ρ, _, x1, kill_out hS r1 b1 r5 r6 r8 (by omega) f1 f2 f3 f4 f5 f6, ⟨_, rfl, rfl, u3.symm⟩⟩
  · obtain ⟨id, l, row, rfl, h1, h2, h3, h4, h6⟩ := hinv _ _ _ _ hh
    rcases h6 with ⟨_, _, rfl⟩ | ⟨i, n, c, z, rw', els, b, _, _, _, _, _, _, _, _, _, _, r8, _⟩
    · exact Nat.le_refl _
    · exact killR_next r8
end Go.Ex

namespace Go.Ex
variable {sy : Nat → Value} {ρ : Env} {P : Program}

/-! runs that are cut at calls: a state of few rows stands for one of more -/
structure SubSt (t s : St) : Prop where
  heap : ∀ i r, t.heap.get i = some r → s.heap.get i = some r
  fams : ∀ f l, t.fams.get f = some l → s.fams.get f = some l
  has : ∀ i r, t.heap.get i = some r → r.fam ≠ 0 → ∃ l, t.fams.get r.fam = some l
  next : t.next = s.next
  floor : t.floor = s.floor
theorem SubSt.hv {t s : St} (h : SubSt t s) {i : Nat} {r : VRow} (hr : t.hv i = some r) : s.hv i = some r := by
  obtain ⟨row, h1, h2⟩ := hv_some.1 hr
  exact hv_some.2 ⟨row, h.heap i row h1, h2⟩
theorem SubSt.famv {t s : St} (h : SubSt t s) {i : Nat} {r : VRow} (hr : t.hv i = some r) (h0 : r.fam ≠ 0) : ∃ l, t.fams.get r.fam = some l := by
  obtain ⟨row, h1, h2⟩ := hv_some.1 hr
  subst h2
  exact h.has i row h1 h0
theorem SubSt.rdb {t s : St} (h : SubSt t s) {r : VRow} {j : Nat} (hj : Rdb t.fams.get j r.fam) : Rdb s.fams.get j r.fam := by
  rcases hj with hj | ⟨l, h1, h2⟩
  · exact .inl hj
  · exact .inr ⟨l, h.fams _ _ h1, h2⟩
theorem SubSt.sat {t s : St} {w : World} (h : SubSt t s) (hS : SatS sy ρ s w) : SatS sy ρ t w := by
  refine ⟨⟨fun id r hr => ?_, fun i j ri rj pi pj hne hi hj hpi hpj hb => ?_, fun i r hr h0 => h.famv hr h0, fun i r hr h0 l hl => hS.sat.ends i r (h.hv hr) h0 l (h.fams _ _ hl), fun f l hl => hS.sat.pmem f l (h.fams _ _ hl), fun i r hr => hS.sat.exfam i r (h.hv hr), hS.sat.glob⟩,
    fun id row hr => hS.wf id row (h.heap id row hr), by rw [h.floor, h.next]; exact hS.fln⟩
  · obtain ⟨pl, h1, h2, h3, h4⟩ := hS.sat.rows id r (h.hv hr)
    rw [h.floor]
    exact ⟨pl, h1, h2, h3, h4.shape, fun hf hj => h4.free hf (h.rdb hj), h4.plain, fun j c hc hj => h4.cells j c hc (h.rdb hj), h4.typ⟩
  · rw [h.floor]
    rcases hS.sat.sep i j ri rj pi pj hne (h.hv hi) (h.hv hj) hpi hpj hb with q | ⟨q1, q2, q3, q4, q5⟩
    · exact .inl q
    · exact .inr ⟨q1, q2, q3, q4, fun l hl => q5 l (h.fams _ _ hl)⟩
theorem SubSt.owned {t s : St} (h : SubSt t s) {b : Nat} (ho : Owned ρ t b) : Owned ρ s b := by
  obtain ⟨i, r, pl, h1, h2, h3, h4⟩ := ho
  exact ⟨i, r, pl, by rw [← h.floor]; exact h1, h.heap i r h2, h3, h4⟩
/-- a run of the smaller state, seen from the greater one -/
theorem SubSt.out {t s t' u : St} {w w' : World} {ρ' : Env} (h : SubSt t s) (k : SubSt u t') (ho : Out sy ρ t w ρ' t' w') : Out sy ρ s w ρ' u w' := by
  refine ⟨⟨?_, ?_, fun i hi hr => ?_⟩, ⟨ho.fr.size, ho.fr.os, ho.fr.tape, ho.fr.output, fun b hb hn => ho.fr.old b hb fun q => hn (h.owned q), ho.fr.mono, fun i q h1 h2 => ?_⟩, k.sat ho.sat⟩
  · rw [k.next, ← h.next]; exact ho.ext.next
  · rw [k.floor, ho.ext.floor, h.floor]
  · cases hq : u.heap.get i with
    | none => rfl
    | some r =>
      have h1 := k.heap i r hq
      have h2 : t.heap.get i = none := by
        cases h3 : t.heap.get i with
        | none => rfl
        | some r' => rw [h.heap i r' h3] at hi; simp at hi
      rw [ho.ext.dom i h2 (by rw [h.next, ← k.next]; exact hr)] at h1
      simp at h1
  · obtain ⟨g1, g2⟩ := ho.fr.newid i q h1 h2
    rw [h.next, ← k.next] at g1
    exact ⟨g1, g2.imp (fun x => x) h.owned⟩

/-! the smaller state, told by its rows -/
structure Lit where
  rows : List (Nat × Row)
  fams : List (Nat × List (Nat × Nat))
  next : Nat
noncomputable def putAll {α : Type} (l : List (Nat × α)) : T α := List.rec (motive := fun _ => T α) .E (fun x _ ih => ih.set x.1 x.2) l
noncomputable def Lit.st (l : Lit) : St := ⟨putAll l.rows, putAll l.fams, l.next, 2048⟩
theorem putAll_get {α : Type} : ∀ {l : List (Nat × α)} {i : Nat} {x : α}, (putAll l).get i = some x → (i, x) ∈ l
  | [], i, x, h => by
    have h' : (T.E : T α).get i = some x := h
    rw [T.get_E] at h'; simp at h'
  | y :: l, i, x, h => by
    have h' : ((putAll l).set y.1 y.2).get i = some x := h
    rw [T.get_set] at h'
    split at h'
    · rename_i e
      simp at h'
      subst e; subst h'
      exact List.mem_cons_self ..
    · exact List.mem_cons_of_mem _ (putAll_get h')

def fkB : FloatKind → FloatKind → Bool
  | .f32, .f32 => true
  | .f64, .f64 => true
  | _, _ => false
theorem fkB_eq {a b : FloatKind} (h : fkB a b = true) : a = b := by
  cases a <;> cases b <;> first | rfl | cases h
noncomputable def eqC (x y : AV) : Bool := match x, y with
  | .flo k a, .flo l b => (fkB k l).and (Nat.beq a b)
  | .ifc t a, .ifc u b => (Nat.beq t u).and (eq1 a b)
  | .fn (.func f) a b, .fn (.func g) c d => (Nat.beq f g).and ((eqL a c).and (eqL b d))
  | x, y => eq1 x y
theorem eqC_eq {x y : AV} (h : eqC x y = true) : x = y := by
  unfold eqC at h
  split at h
  · rw [and_true', ] at h
    rw [fkB_eq h.1, Nat.eq_of_beq_eq_true h.2]
  · rw [and_true'] at h
    rw [Nat.eq_of_beq_eq_true h.1, eq1_eq h.2]
  · rw [and_true', and_true'] at h
    rw [Nat.eq_of_beq_eq_true h.1, eqL_eq h.2.1, eqL_eq h.2.2]
  · exact eq1_eq h
noncomputable def eqLB {α : Type} (f : α → α → Bool) (l : List α) : List α → Bool :=
  List.rec (motive := fun _ => List α → Bool) (fun m => List.rec (motive := fun _ => Bool) true (fun _ _ _ => false) m)
    (fun a _ ih m => List.rec (motive := fun _ => Bool) false (fun b r _ => (f a b).and (ih r)) m) l
theorem eqLB_eq {α : Type} {f : α → α → Bool} (hf : ∀ a b, f a b = true → a = b) : ∀ {l m : List α}, eqLB f l m = true → l = m
  | [], [], _ => rfl
  | [], _ :: _, h => by cases h
  | _ :: _, [], h => by cases h
  | a :: l, b :: m, h => by
    have h' : (f a b).and (eqLB f l m) = true := h
    rw [and_true'] at h'
    rw [hf a b h'.1, eqLB_eq hf h'.2]
/-- an argument, an answer: plain, or of plain parts -/
noncomputable def eqArg (x y : AV) : Bool := match x, y with
  | .agg l, .agg m => eqLB eqC l m
  | .tup l, .tup m => eqLB (fun a b => match a, b with
    | .agg p, .agg q => eqLB eqC p q
    | a, b => eqC a b) l m
  | x, y => eqC x y
theorem eqArg_eq {x y : AV} (h : eqArg x y = true) : x = y := by
  unfold eqArg at h
  split at h
  · rw [eqLB_eq (fun _ _ => eqC_eq) h]
  · refine congrArg AV.tup (eqLB_eq (fun a b hab => ?_) h)
    split at hab
    · rw [eqLB_eq (fun _ _ => eqC_eq) hab]
    · exact eqC_eq hab
  · exact eqC_eq h
noncomputable def eqB (a b : Bool) : Bool := bi a b b.not
theorem eqB_eq {a b : Bool} (h : eqB a b = true) : a = b := by cases a <;> cases b <;> first | rfl | cases h
noncomputable def eqRow (a b : Row) : Bool := (Nat.beq a.fam b.fam).and ((eqB a.exact b.exact).and ((Nat.beq a.sz b.sz).and ((Nat.beq a.ty b.ty).and (eqLB (eqLB eqC) a.cs b.cs))))
theorem eqRow_eq {a b : Row} (h : eqRow a b = true) : a = b := by
  unfold eqRow at h
  simp only [and_true'] at h
  obtain ⟨h1, h2, h3, h4, h5⟩ := h
  obtain ⟨f, e, z, c, t⟩ := a
  obtain ⟨f', e', z', c', t'⟩ := b
  obtain rfl := Nat.eq_of_beq_eq_true h1
  obtain rfl := eqB_eq h2
  obtain rfl := Nat.eq_of_beq_eq_true h3
  obtain rfl := Nat.eq_of_beq_eq_true h4
  obtain rfl := eqLB_eq (fun _ _ => eqLB_eq fun _ _ => eqC_eq) h5
  rfl
def eqPr (a b : Nat × Nat) : Bool := (Nat.beq a.1 b.1).and (Nat.beq a.2 b.2)
theorem eqPr_eq {a b : Nat × Nat} (h : eqPr a b = true) : a = b := by
  unfold eqPr at h
  rw [and_true'] at h
  exact Prod.ext (Nat.eq_of_beq_eq_true h.1) (Nat.eq_of_beq_eq_true h.2)
noncomputable def isO {α : Type} (f : α → Bool) (x : Option α) : Bool := Option.rec (motive := fun _ => Bool) false f x
theorem isO_some {α : Type} {f : α → Bool} {x : Option α} (h : isO f x = true) : ∃ y, x = some y ∧ f y = true := by
  cases x with
  | none => cases h
  | some y => exact ⟨y, rfl, h⟩
noncomputable def noFam (n : Nat) (b : Bool) : Bool := Nat.rec (motive := fun _ => Bool) true (fun _ _ => b) n
/-- does the state have these rows, these families? -/
noncomputable def subB (l : Lit) (s : St) : Bool :=
  ((Nat.beq l.next s.next).and (Nat.beq s.floor 2048)).and ((allL (fun x : Nat × Row => (isO (eqRow x.2) (s.heap.get x.1)).and (noFam x.2.fam (isO (fun _ => true) ((putAll l.fams).get x.2.fam)))) l.rows).and
    (allL (fun x : Nat × List (Nat × Nat) => isO (eqLB eqPr x.2) (s.fams.get x.1)) l.fams))
theorem subB_sub {l : Lit} {s : St} (h : subB l s = true) : SubSt l.st s := by
  unfold subB at h
  simp only [and_true'] at h
  obtain ⟨⟨h1, h2⟩, h3, h4⟩ := h
  have k3 := allL_mem.1 h3
  have k4 := allL_mem.1 h4
  simp only [and_true'] at k3
  refine ⟨fun i r hr => ?_, fun f p hp => ?_, fun i r hr h0 => ?_, Nat.eq_of_beq_eq_true h1, (Nat.eq_of_beq_eq_true h2).symm⟩
  · obtain ⟨y, e1, e2⟩ := isO_some (k3 _ (putAll_get hr)).1
    have e3 : r = y := eqRow_eq e2
    rw [e3]; exact e1
  · obtain ⟨y, e1, e2⟩ := isO_some (k4 _ (putAll_get hp))
    have e3 : p = y := eqLB_eq (fun _ _ => eqPr_eq) e2
    rw [e3]; exact e1
  · have := (k3 _ (putAll_get hr)).2
    cases hf : r.fam with
    | zero => exact absurd hf h0
    | succ m =>
      simp only [hf] at this
      obtain ⟨y, e1, -⟩ := isO_some (show isO (fun _ => true) ((putAll l.fams).get (m + 1)) = true from this)
      exact ⟨y, e1⟩

/-- a call that is told: from which arguments and rows, what it answers, with which rows -/
structure Ent where
  args : List AV
  before : Lit
  ans : AV
  after : Lit
noncomputable def hEnt (e : Ent) (args : List AV) (s : St) (k : R) : R :=
  bi (Nat.beq e.before.next s.next) (bi ((eqLB eqArg e.args args).and (subB e.before s)) (some (e.ans, e.after.st)) none) k
noncomputable def hSub (es : List Ent) : List AV → St → R := fun args s => List.rec (motive := fun _ => R) none (fun e _ ih => hEnt e args s ih) es
/-- its run -/
noncomputable def entRun (P : Program) (ov : OV) (mk : Nat → Nat) (n f : Nat) (e : Ent) : Bool :=
  isO (fun r : AV × St => (eqArg e.ans r.1).and (subB e.after r.2)) (topF P ov mk n f e.args e.before.st)
theorem hSub_some {es : List Ent} {args : List AV} {s : St} {r : AV × St} (h : hSub es args s = some r) : ∃ e ∈ es, e.args = args ∧ SubSt e.before.st s ∧ r = (e.ans, e.after.st) := by
  induction es with
  | nil => cases h
  | cons e es ih =>
    have h' : hEnt e args s (hSub es args s) = some r := h
    unfold hEnt at h'
    rw [bi_eq] at h'
    split at h'
    · rw [bi_eq] at h'
      split at h'
      · rename_i h1 h2
        rw [and_true'] at h2
        simp at h'
        exact ⟨e, List.mem_cons_self .., eqLB_eq (fun _ _ => eqArg_eq) h2.1, subB_sub h2.2, h'.symm⟩
      · simp at h'
    · obtain ⟨e', h1, h2⟩ := ih h'
      exact ⟨e', List.mem_cons_of_mem _ h1, h2⟩
/-- One more function whose calls are told, each by its own run. -/
theorem hSub_ok {ov ov' : OV} (ho : OvOk sy P ov) (ho' : OvOk sy P ov') {mk : Nat → Nat} {n f : Nat} {es : List Ent} (hE : Enters P f) (hr : ∀ e ∈ es, entRun P ov' mk n f e = true) : OvOk sy P (T.set ov f (hSub es)) := by
  have key : ∀ e ∈ es, ∃ t', topF P ov' mk n f e.args e.before.st = some (e.ans, t') ∧ SubSt e.after.st t' := by
    intro e he
    obtain ⟨⟨v, t'⟩, h1, h2⟩ := isO_some (hr e he)
    rw [and_true'] at h2
    have := eqArg_eq h2.1
    simp only at this
    exact ⟨t', by rw [h1, this], subB_sub h2.2⟩
  refine ho.set (fun ρ args s s' v w vs hS hl hfr hh => ?_) hE fun args s v s' hh => ?_
  · obtain ⟨e, he, rfl, hsub, hres⟩ := hSub_some hh
    obtain ⟨t', h1, h2⟩ := key e he
    simp only [Prod.mk.injEq] at hres
    obtain ⟨rfl, rfl⟩ := hres
    refine (topF_ok ho' h1 (hsub.sat hS) hl (by rw [hsub.next, ← h2.next]; exact hfr)).mono fun x w' ⟨ρ', u, g1, g2, g3⟩ => ⟨ρ', u, g1, hsub.out h2 g2, g3⟩
  · obtain ⟨e, he, rfl, hsub, hres⟩ := hSub_some hh
    obtain ⟨t', h1, h2⟩ := key e he
    simp only [Prod.mk.injEq] at hres
    obtain ⟨rfl, rfl⟩ := hres
    rw [h2.next, ← hsub.next]
    exact callNF_grows (runF_ok (sy := sy) ho' n).2 _ _ _ _ _ h1
end Go.Ex

namespace Go.Ex
variable {sy : Nat → Value} {ρ : Env} {P : Program}
open Go.RowKit

/-! errors.As at a concrete target: told beforehand, where the error is of just that type -/
structure AsOk (P : Program) (fA : FuncId) (g tt tp : Nat) (hv : Value) : Prop where
  hit : ∀ (e t : Addr) (old : Value) (w : World), w.cell? ⟨g, 0, none⟩ = some hv → w.cell? t = some old → w.frozen? t = false →
    Calls P fA #[.iface tt (.pointer (some e)), .iface tp (.pointer (some t))] w fun x w' => x = .returned (.bool true) ∧ ∃ w1, Below w.heap.size w w1 ∧ w' = w1.setCell t (.pointer (some e))
  en : Enters P fA
/-- a type's handle -/
noncomputable def handIs (rt hb hi : Nat) (l : List AV) : Bool := match l with
  | [.ifc t (.agg [.ptr b o])] => (Nat.beq t rt).and ((Nat.beq b hb).and (Nat.beq o hi))
  | _ => false
noncomputable def isExact (x : Option Row) : Bool := isO (fun r => r.exact) x
noncomputable def hAs (g tt tp rt hb hi : Nat) : List AV → St → R := fun args s => match args with
  | [.ifc t x, .ifc u y] => match x, y with
    | .ptr i o, .ptr j q => bi ((Nat.beq t tt).and ((Nat.beq u tp).and ((isO (handIs rt hb hi) (loadC s g 0 1)).and ((isExact (s.heap.get j)).and (isO (fun l => Nat.beq (lenL l) 1) (loadC s j q 1))))))
        (ob (storeC s j q [.ptr i o]) fun s' => some (.bool true, s')) none
    | _, _ => none
  | _ => none
theorem isO_of {α : Type} {f : α → Bool} {x : Option α} (h : isO f x = true) : ∃ y, x = some y ∧ f y = true := isO_some h
theorem handIs_eq {rt hb hi : Nat} {l : List AV} (h : handIs rt hb hi l = true) : l = [.ifc rt (.agg [.ptr hb hi])] := by
  unfold handIs at h
  split at h
  · simp only [and_true'] at h
    rw [Nat.eq_of_beq_eq_true h.1, Nat.eq_of_beq_eq_true h.2.1, Nat.eq_of_beq_eq_true h.2.2]
  · cases h
theorem hAs_inv {g tt tp rt hb hi : Nat} {args : List AV} {s s' : St} {v : AV} (h : hAs g tt tp rt hb hi args s = some (v, s')) :
    ∃ i o j q row l, args = [.ifc tt (.ptr i o), .ifc tp (.ptr j q)] ∧ loadC s g 0 1 = some [.ifc rt (.agg [.ptr hb hi])] ∧ s.heap.get j = some row ∧ row.exact = true ∧ loadC s j q 1 = some l ∧ storeC s j q [.ptr i o] = some s' ∧ v = .bool true := by
  unfold hAs at h
  split at h
  · split at h
    · rename_i t x u y i o j q
      simp only [bi_some, ob_some, and_true'] at h
      obtain ⟨⟨h1, h2, h3, h4, h5⟩, s1, h6, h7⟩ := h
      obtain ⟨l, e1, e2⟩ := isO_of h3
      obtain ⟨row, e3, e4⟩ := isO_of h4
      obtain ⟨l2, e5, -⟩ := isO_of h5
      simp at h7
      rw [handIs_eq e2] at e1
      rw [Nat.eq_of_beq_eq_true h1, Nat.eq_of_beq_eq_true h2]
      exact ⟨i, o, j, q, row, l2, rfl, e1, e3, e4, e5, by rw [← h7.2]; exact h6, h7.1.symm⟩
    · simp at h
  · simp at h
theorem hAs_ok {ov : OV} {fA : FuncId} {g tt tp rt hb hi : Nat} (ho : OvOk sy P ov) (hA : AsOk P fA g tt tp (.iface rt (.agg #[.pointer (some ⟨hb, hi, none⟩)]))) (hg : g < 1024) (hb' : hb < 1024) : OvOk sy P (T.set ov fA (hAs g tt tp rt hb hi)) := by
  refine ho.set (fun ρ args s s' v w vs hS hl hfr hh => ?_) hA.en fun args s v s' hh => ?_
  · obtain ⟨i, o, j, q, row, l, rfl, h1, h2, h3, h4, h5, rfl⟩ := hAs_inv hh
    obtain ⟨u, r1, e1, k1, k2⟩ := hl
    obtain ⟨u2, r2, e2, k3, k4⟩ := k2
    have hr2 : r2 = [] := k4
    subst hr2; subst e2
    have hvs : vs = #[u, u2] := by
      apply Array.ext'
      simpa using e1
    subst hvs
    obtain ⟨x1, m1, m2⟩ := k1
    obtain ⟨x2, m3, m4⟩ := k3
    obtain ⟨pi, p1, p2⟩ := m2
    obtain ⟨pj, p3, p4⟩ := m4
    subst p2; subst p4; subst m1; subst m3
    obtain ⟨pg, vg, q1, q2, q3, q4, q5⟩ := loadC_at hS h1
    obtain ⟨y, r, rfl, q6, q7⟩ := q2
    have hr : r = [] := q7
    subst hr
    have hy : y = .iface rt (.agg #[.pointer (some ⟨hb, hi, none⟩)]) := by
      obtain ⟨y1, rfl, y2, rfl, ⟨y3, y4, y5, ⟨pb, y6, y7⟩, y8⟩, -⟩ := q6
      obtain ⟨pb', z0, z1, z2⟩ := hS.sat.glob hb hb'
      rw [y6] at z0; simp at z0; subst z0
      have h4 : y4 = [] := y8
      subst h4
      rw [z1, z2] at y7
      subst y7
      have : y2 = #[.pointer (some ⟨hb, 0 + hi, none⟩)] := by
        apply Array.ext'
        simpa using y5
      rw [this]
      simp
    obtain ⟨pg', z0, z1, z2⟩ := hS.sat.glob g hg
    rw [q1] at z0; simp at z0; subst z0
    have hc := range_one q5
    obtain ⟨pj', vj, a1, a2, a3, a4, a5⟩ := loadC_at hS h4
    rw [p3] at a1; simp at a1; subst a1
    obtain ⟨old, rfl⟩ : ∃ old, vj = [old] := by
      match vj, a3 with
      | [x], _ => exact ⟨x, rfl⟩
    have ht := range_one a5
    obtain ⟨pl, g1, g2, g3, g4⟩ := hS.sat.rows j row.v (hv_some.2 ⟨row, h2, rfl⟩)
    rw [p3] at g1; simp at g1; subst g1
    have hfz := g4.plain h3 (pj.base + q)
    rw [z1, z2] at hc
    simp only [Nat.add_zero] at hc
    refine (hA.hit _ _ old w (by rw [hc, hy]) ht hfz).mono fun e w' ⟨y1, w1, y2, y3⟩ => ?_
    subst y3
    have hS1 := hS.below y2
    obtain ⟨pl', e1', e2', e3', e4'⟩ := storeC_out (us := [.pointer (some ⟨pi.blk, pi.base + o, none⟩)]) hS1 h5 ⟨_, [], rfl, ⟨pi, p1, rfl⟩, rfl⟩ (by intro u hu; simp at hu; subst hu; trivial)
    rw [p3] at e1'; simp at e1'; subst e1'
    refine ⟨ρ, _, y1, ?_, rfl⟩
    exact (Out.below hS y2).trans e3' (by rw [storeC_next h5]; exact fun a b c => absurd b (by omega))
  · obtain ⟨i, o, j, q, row, l, rfl, h1, h2, h3, h4, h5, rfl⟩ := hAs_inv hh
    exact Nat.le_of_eq (storeC_next h5).symm
end Go.Ex
