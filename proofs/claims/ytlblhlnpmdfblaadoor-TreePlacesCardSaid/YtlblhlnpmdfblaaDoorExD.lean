/- A checked runner of calls that are closed: what a run says of its call holds in every memory, on every schedule (part 4 of 4). No conditions of its own. -/
import Derived.Test.YtlblhlnpmdfblaaDoorExC
import Derived.Lib.UnsafeStr
namespace Go.Ex
variable {sy : Nat → Value} {ρ : Env} {P : Program}

/-! calls that are told beforehand -/
/-- gristmillworld.Number: of an argument that is open its rest is told -/
noncomputable def hNum (res : Nat → Nat → Option Nat) : List AV → St → R := fun args s => match args with
  | [x, .int .i64 m] => match m with
    | .ofNat m => bi ((Nat.ble 1 m).and (Nat.ble m 1000000)) (match x with
      | .sym j => ob (res j m) fun r => some (.int .i64 (Int.ofNat r), s)
      | .int .i64 a => some (.int .i64 (Int.emod a (Int.ofNat m)), s)
      | _ => none) none
    | _ => none
  | _ => none
theorem hNum_ok {fN : FuncId} {xs : Nat → Int} {res : Nat → Nat → Option Nat} (hN : ∀ (x m : Int), 0 < m → m ≤ 1000000 → ∀ w, Calls P fN #[.int .i64 x, .int .i64 m] w fun e w' => e = .returned (.int .i64 (x % m)) ∧ w = w')
    (hE : Enters P fN) (hsy : ∀ j, sy j = .int .i64 (xs j)) (hres : ∀ j m r, res j m = some r → xs j % (m : Int) = (r : Int)) : OvOk sy P (T.set .E fN (hNum res)) := by
  have hinv : ∀ args s v s', hNum res args s = some (v, s') → ∃ x m, args = [x, .int .i64 (Int.ofNat m)] ∧ 1 ≤ m ∧ m ≤ 1000000 ∧ s' = s ∧ ((∃ j r, x = .sym j ∧ res j m = some r ∧ v = .int .i64 (Int.ofNat r)) ∨ ∃ a, x = .int .i64 a ∧ v = .int .i64 (Int.emod a (Int.ofNat m))) := by
    intro args s v s' h
    unfold hNum at h
    split at h
    · rename_i x m
      split at h
      · rename_i m
        rw [bi_some, and_true'] at h
        obtain ⟨⟨h1, h2⟩, h3⟩ := h
        refine ⟨x, m, rfl, by simpa using h1, by simpa using h2, ?_⟩
        split at h3
        · rename_i j
          simp only [ob_some, Option.some.injEq, Prod.mk.injEq] at h3
          obtain ⟨r, g1, g2, g3⟩ := h3
          exact ⟨g3.symm, .inl ⟨j, r, rfl, g1, g2.symm⟩⟩
        · rename_i a
          simp only [Option.some.injEq, Prod.mk.injEq] at h3
          exact ⟨h3.2.symm, .inr ⟨a, rfl, h3.1.symm⟩⟩
        · simp at h3
      · simp at h
    · simp at h
  have hget : ∀ f h, (T.set .E fN (hNum res) : OV).get f = some h → f = fN ∧ h = hNum res := by
    intro f h e
    rw [T.get_set] at e
    split at e
    · rename_i ef; simp at e; exact ⟨ef, e.symm⟩
    · rw [T.get_E] at e; simp at e
  refine ⟨fun f h e ρ args s s' v w vs hS hl hfr hh => ?_, fun f h e => by rw [(hget f h e).1]; exact hE, fun f h e args s v s' hh => ?_⟩
  · obtain ⟨rfl, rfl⟩ := hget f h e
    obtain ⟨x, m, rfl, h1, h2, rfl, hx⟩ := hinv _ _ _ _ hh
    have hl' := hl
    obtain ⟨u, q, e1, k1, k2⟩ := hl
    obtain ⟨u2, q2, e2, k3, k4⟩ := k2
    have hq2 : q2 = [] := k4
    have hu2 : u2 = .int .i64 (m : Int) := k3
    subst hq2; subst hu2; subst e2
    have hvs : vs = #[u, .int .i64 (m : Int)] := by
      apply Array.ext'
      simpa using e1
    rw [hvs]
    have key : ∀ a : Int, u = .int .i64 a → a % (m : Int) = (match v with | .int _ z => z | _ => 0) → (∃ z, v = .int .i64 z) → Calls P f #[u, .int .i64 (m : Int)] w fun e w' => ∃ ρ' y, e = .returned y ∧ Out sy ρ s' w ρ' s' w' ∧ V sy ρ' v y := by
      rintro a rfl ha ⟨z, rfl⟩
      refine (hN a m (by omega) (by omega) w).mono fun e w' ⟨g1, g2⟩ => ?_
      subst g2
      exact ⟨ρ, _, g1, .refl hS, by show _ = _; rw [ha]⟩
    rcases hx with ⟨j, r, rfl, g1, rfl⟩ | ⟨a, rfl, rfl⟩
    · have hu : u = sy j ∧ Flat u := k1
      exact key (xs j) (by rw [hu.1, hsy]) (hres j m r g1) ⟨_, rfl⟩
    · exact key a k1 rfl ⟨_, rfl⟩
  · obtain ⟨-, rfl⟩ := hget f h e
    obtain ⟨x, m, rfl, h1, h2, rfl, hx⟩ := hinv _ _ _ _ hh
    exact Nat.le_refl _
/-- the rests that are told -/
noncomputable def rests (l : List (Nat × Nat × Nat)) (j m : Nat) : Option Nat :=
  List.rec (motive := fun _ => Option Nat) none (fun x _ ih => bi ((Nat.beq x.1 j).and (Nat.beq x.2.1 m)) (some x.2.2) ih) l
theorem rests_ok {xs : Nat → Int} : ∀ {l : List (Nat × Nat × Nat)}, (∀ x ∈ l, xs x.1 % (x.2.1 : Int) = (x.2.2 : Int)) → ∀ j m r, rests l j m = some r → xs j % (m : Int) = (r : Int)
  | [], _, j, m, r, h => by
    have h' : (none : Option Nat) = some r := h
    simp at h'
  | x :: l, hl, j, m, r, h => by
    have h' : bi ((Nat.beq x.1 j).and (Nat.beq x.2.1 m)) (some x.2.2) (rests l j m) = some r := h
    rw [bi_eq] at h'
    split at h'
    · rename_i hb
      rw [and_true'] at hb
      have e1 : x.1 = j := Nat.eq_of_beq_eq_true hb.1
      have e2 : x.2.1 = m := Nat.eq_of_beq_eq_true hb.2
      simp at h'
      rw [← e1, ← e2, ← h']
      exact hl x (by simp)
    · exact rests_ok (fun y hy => hl y (List.mem_cons_of_mem _ hy)) j m r h'
/-- did it answer true? -/
def tru : AV → Bool
  | .bool b => b
  | _ => false
noncomputable def isT (r : R) : Bool := Option.rec (motive := fun _ => Bool) false (fun p => tru p.1) r
theorem isT_some {r : R} (h : isT r = true) : ∃ s', r = some (.bool true, s') := by
  cases r with
  | none => cases h
  | some p =>
    obtain ⟨v, s'⟩ := p
    have h' : tru v = true := h
    unfold tru at h'
    split at h'
    · subst h'; exact ⟨s', rfl⟩
    · simp at h'
end Go.Ex

namespace Go.Ex
variable {sy : Nat → Value} {ρ : Env} {P : Program}
open Go.RowKit

/-- What is known of memory is known still where nothing old has turned. -/
theorem SatS.below {s : St} {w w' : World} (h : SatS sy ρ s w) (hb : Below w.heap.size w w') : SatS sy ρ s w' := by
  refine ⟨⟨fun id r hr => ?_, h.sat.sep, h.sat.fams, h.sat.ends, h.sat.pmem, h.sat.exfam, h.sat.glob⟩, h.wf, h.fln⟩
  obtain ⟨pl, g1, g2, g3, g4⟩ := h.sat.rows id r hr
  obtain ⟨el, hsh⟩ := g4.shape
  exact ⟨pl, g1, g2, g3, g4.same (hb.block _ (lt_of_shape hsh)) (fun x => x) (fun _ _ x => x)⟩
theorem Out.below {s : St} {w w' : World} (h : SatS sy ρ s w) (hb : Below w.heap.size w w') : Out sy ρ s w ρ s w' :=
  ⟨.refl s, ⟨hb.size, hb.os, hb.tape, hb.output, fun b hlt _ => hb.block b hlt, fun _ _ h => h, fun i q h h' => by rw [h'] at h; simp at h⟩, h.below hb⟩

/-- One more function that is told beforehand. -/
theorem OvOk.set {ov : OV} (ho : OvOk sy P ov) {f : FuncId} {hd : List AV → St → R}
    (ok : ∀ (ρ : Env) (args : List AV) (s s' : St) (v : AV) (w : World) (vs : Array Value), SatS sy ρ s w → VL sy ρ args vs.toList → Fresh ρ s.next s'.next → hd args s = some (v, s') →
      Calls P f vs w fun e w' => ∃ ρ' u, e = .returned u ∧ Out sy ρ s w ρ' s' w' ∧ V sy ρ' v u)
    (hE : Enters P f) (gr : ∀ args s v s', hd args s = some (v, s') → s.next ≤ s'.next) : OvOk sy P (T.set ov f hd) := by
  refine ⟨fun g h e ρ args s s' v w vs => ?_, fun g h e => ?_, fun g h e => ?_⟩
  all_goals
    rw [T.get_set] at e
    split at e
  · rename_i ef; subst ef; obtain rfl : hd = h := by simpa using e
    exact ok ρ args s s' v w vs
  · exact ho.ok g h e ρ args s s' v w vs
  · rename_i ef; subst ef; exact hE
  · exact ho.enters g h e
  · rename_i ef; subst ef; obtain rfl : hd = h := by simpa using e
    exact gr
  · exact ho.grows g h e

/-- strings.Clone: the text itself. -/
noncomputable def hClone : List AV → St → R := fun args s => match args with
  | [x] => match x with
    | .str n b => bi (Nat.ble n 281474976710656) (some (.str n b, s)) none
    | _ => none
  | _ => none
theorem hClone_ok {ov : OV} (ho : OvOk sy P ov) {f : FuncId} (hC : ∀ (s : ByteArray) (w : World), s.size ≤ 281474976710656 → Calls P f #[.string s] w fun e w' => e = .returned (.string s) ∧ Below w.heap.size w w') (hE : Enters P f) : OvOk sy P (T.set ov f hClone) := by
  have hinv : ∀ args s v s', hClone args s = some (v, s') → ∃ n b, args = [.str n b] ∧ n ≤ 281474976710656 ∧ v = .str n b ∧ s' = s := by
    intro args s v s' h
    unfold hClone at h
    split at h
    · split at h
      · rename_i n b
        rw [bi_some] at h
        obtain ⟨h1, h2⟩ := h
        simp only [Option.some.injEq, Prod.mk.injEq] at h2
        exact ⟨n, b, rfl, by simpa using h1, h2.1.symm, h2.2.symm⟩
      · simp at h
    · simp at h
  refine ho.set (fun ρ args s s' v w vs hS hl hfr hh => ?_) hE (fun args s v s' hh => ?_)
  · obtain ⟨n, b, rfl, h1, rfl, rfl⟩ := hinv _ _ _ _ hh
    obtain ⟨u, q, e1, k1, k2⟩ := hl
    have hq : q = [] := k2
    subst hq
    obtain ⟨t, rfl, k3, k4⟩ := k1
    have hvs : vs = #[.string t] := by
      apply Array.ext'
      simpa using e1
    rw [hvs]
    have hsz : t.size ≤ 281474976710656 := by rw [← k3] at h1; simpa using h1
    refine (hC t w hsz).mono fun e w' ⟨g1, g2⟩ => ?_
    exact ⟨ρ, _, g1, .below hS g2, ⟨t, rfl, k3, k4⟩⟩
  · obtain ⟨n, b, rfl, h1, rfl, rfl⟩ := hinv _ _ _ _ hh
    exact Nat.le_refl _
end Go.Ex

namespace Go.Ex
variable {sy : Nat → Value} {ρ : Env} {P : Program}
open Go.RowKit

/-! package strings' Builder: two of its calls are told beforehand -/
theorem freeze_facts (w : World) (a : Addr) (n : Nat) : (w.freeze a n).heap.size = w.heap.size ∧ (w.freeze a n).os = w.os ∧ (w.freeze a n).tape = w.tape ∧ (w.freeze a n).output = w.output ∧
    (∀ b, b ≠ a.block → (w.freeze a n).heap[b]? = w.heap[b]?) ∧ (∀ b, (w.freeze a n).shape? b = w.shape? b) := by
  unfold World.freeze
  split
  · exact ⟨rfl, rfl, rfl, rfl, fun _ _ => rfl, fun _ => rfl⟩
  · refine ⟨by simp, rfl, rfl, rfl, fun b hb => ?_, fun b => ?_⟩
    · simp only [Array.getElem?_modify]
      rw [if_neg (by omega)]
    · unfold World.shape?
      simp only [Array.getElem?_modify]
      by_cases e : a.block = b
      · rw [if_pos e]
        cases w.heap[b]? with
        | none => rfl
        | some o => cases o <;> rfl
      · rw [if_neg e]

/-- rows that may be read no more -/
noncomputable def killR (s : St) (i : Nat) (row : Row) : Option St := match row.fam with
  | 0 => match s.fams.get s.next with
    | none => some ⟨s.heap.set i ⟨s.next, row.exact, row.sz, row.cs, row.ty⟩, s.fams.set s.next [], Nat.succ s.next, s.floor⟩
    | some _ => none
  | f => some ⟨s.heap, s.fams.set f [], s.next, s.floor⟩

theorem kill_sat {H H' : HV} {F F' : FV} {fl : Nat} {w w' : World} {i f : Nat} {r : VRow} {pl : Pl} (h : Sat sy ρ H F fl w) (hr : H i = some r) (hp : ρ i = some pl) (hfl : fl ≤ i) (hex : r.exact = false) (hf : f ≠ 0)
    (hi : r.fam = f ∨ (r.fam = 0 ∧ F f = none)) (hH : ∀ j, H' j = if j = i then some ⟨f, r.exact, r.sz, r.cell, r.ty⟩ else H j) (hF : ∀ g, F' g = if g = f then some [] else F g)
    (hmem : ∀ b, b ≠ pl.blk → w'.heap[b]? = w.heap[b]?) (hsh : ∀ b, w'.shape? b = w.shape? b) : Sat sy ρ H' F' fl w' := by
  have noF : ∀ j, ¬ Rdb F' j f := by
    rintro j (h0 | ⟨l, h1, e, h2⟩)
    · exact hf h0
    · rw [hF, if_pos rfl] at h1
      simp at h1; subst h1; simp at h2
  have hot : ∀ j q, j ≠ i → H' j = some q → H j = some q := fun j q hj hq => by rw [hH, if_neg hj] at hq; exact hq
  have hself : ∀ q, H' i = some q → q = ⟨f, r.exact, r.sz, r.cell, r.ty⟩ := fun q hq => by rw [hH, if_pos rfl] at hq; simpa using hq.symm
  have hback : ∀ j g, Rdb F' j g → Rdb F j g := by
    rintro j g (h0 | ⟨l, h1, h2⟩)
    · exact .inl h0
    · rw [hF] at h1
      split at h1
      · simp at h1; subst h1; obtain ⟨e, h2⟩ := h2; simp at h2
      · exact .inr ⟨l, h1, h2⟩
  have hsame : ∀ j q pj, j ≠ i → H j = some q → ρ j = some pj → pj.blk = pl.blk → q.fam = f := by
    intro j q pj hj hq hpj hb
    obtain ⟨_, _, s3, s4, _⟩ := (h.sep j i q r pj pl hj hq hr hpj hp hb).resolve_left fun x => absurd hfl (Nat.not_le_of_lt x.2.1)
    rcases hi with g | ⟨g, _⟩
    · rw [s3, g]
    · exact absurd (s3.trans g) s4
  have hfamF : ∀ j q, H j = some q → q.fam = f → r.fam = f := by
    intro j q hq hqf
    rcases hi with g | ⟨g, g2⟩
    · exact g
    · obtain ⟨p, hp'⟩ := h.fams j q hq (by rw [hqf]; exact hf)
      rw [hqf, g2] at hp'; simp at hp'
  refine ⟨fun j q hq => ?_, fun j k rj rk pj pk hjk hj hk hpj hpk hb => ?_, fun j q hq hn => ?_, fun j q hq hn l hl e he => ?_, fun g l hl j hj => ?_, fun j q hq he => ?_, h.glob⟩
  · by_cases e : j = i
    · subst e
      have := hself q hq; subst this
      obtain ⟨pl', g1, g2, g3, g4⟩ := h.rows j r hr
      rw [hp] at g1; simp at g1; subst g1
      exact ⟨pl, hp, g2, g3, ⟨by rw [hsh]; exact g4.shape, fun _ hq => absurd hq (noF j), fun he => by rw [hex] at he; simp at he, fun _ _ _ hq => absurd hq (noF j), fun x hx => g4.typ x (by rw [← hsh]; exact hx)⟩⟩
    · have hq0 := hot j q e hq
      obtain ⟨pj, g1, g2, g3, g4⟩ := h.rows j q hq0
      refine ⟨pj, g1, g2, g3, ?_⟩
      by_cases hb : pj.blk = pl.blk
      · have hqf := hsame j q pj e hq0 g1 hb
        refine ⟨by rw [hsh]; exact g4.shape, fun _ hq => ?_, fun he => ?_, fun _ _ _ hq => ?_, fun x hx => g4.typ x (by rw [← hsh]; exact hx)⟩
        · rw [hqf] at hq; exact absurd hq (noF j)
        · have := h.exfam j q hq0 he
          rw [hqf] at this; exact absurd this hf
        · rw [hqf] at hq; exact absurd hq (noF j)
      · exact g4.same (hmem _ hb) (hback j q.fam) (fun _ _ x => x)
  · have key : ∀ a q, H' a = some q → ∃ q', H a = some q' ∧ (q'.fam = q.fam ∨ (a = i ∧ q'.fam = 0 ∧ q.fam = f)) := by
      intro a q hq
      by_cases e : a = i
      · subst e
        have := hself q hq; subst this
        refine ⟨r, hr, ?_⟩
        rcases hi with g | ⟨g, _⟩
        · exact .inl g
        · exact .inr ⟨rfl, g, rfl⟩
      · exact ⟨q, hot a q e hq, .inl rfl⟩
    obtain ⟨qj, a1, a2⟩ := key j rj hj
    obtain ⟨qk, b1, b2⟩ := key k rk hk
    rcases h.sep j k qj qk pj pk hjk a1 b1 hpj hpk hb with x | ⟨s1, s2, s3, s4, s5⟩
    · exact .inl x
    · rcases a2 with a2 | ⟨_, a3, _⟩
      · rcases b2 with b2 | ⟨_, b3, _⟩
        · refine .inr ⟨s1, s2, by rw [← a2, ← b2]; exact s3, by rw [← a2]; exact s4, fun l hl hoj hok => ?_⟩
          rw [hF] at hl
          split at hl
          · simp at hl; subst hl; obtain ⟨e, he⟩ := hoj; simp at he
          · rw [← a2] at hl; exact s5 l hl hoj hok
        · exact absurd (s3.trans b3) s4
      · exact absurd a3 s4
  · rw [hF]
    split
    · exact ⟨_, rfl⟩
    · rename_i hne
      by_cases e : j = i
      · subst e
        have := hself q hq; subst this
        exact absurd rfl hne
      · exact h.fams j q (hot j q e hq) hn
  · rw [hF] at hl
    split at hl
    · simp at hl; subst hl; simp at he
    · rename_i hne
      by_cases e' : j = i
      · subst e'
        have := hself q hq; subst this
        exact absurd rfl hne
      · exact h.ends j q (hot j q e' hq) hn l hl e he
  · rw [hF] at hl
    split at hl
    · simp at hl; subst hl; obtain ⟨e, he⟩ := hj; simp at he
    · exact h.pmem g l hl j hj
  · by_cases e : j = i
    · subst e
      have := hself q hq; subst this
      rw [hex] at he; simp at he
    · exact h.exfam j q (hot j q e hq) he
theorem kill_out {s s' : St} {w w' : World} {i : Nat} {row : Row} {pl : Pl} (hS : SatS sy ρ s w) (hr : s.heap.get i = some row) (hp : ρ i = some pl) (hfl : s.floor ≤ i) (hex : row.exact = false) (hk : killR s i row = some s') (hn0 : s.next ≠ 0)
    (hsize : w'.heap.size = w.heap.size) (hos : w'.os = w.os) (htape : w'.tape = w.tape) (hout : w'.output = w.output) (hmem : ∀ b, b ≠ pl.blk → w'.heap[b]? = w.heap[b]?) (hsh : ∀ b, w'.shape? b = w.shape? b) : Out sy ρ s w ρ s' w' := by
  have fr : s.next ≤ s'.next → Fr ρ ρ s s' w w' := fun _ => ⟨Nat.le_of_eq hsize.symm, hos, htape, hout, fun b hb ho => hmem b (fun e => ho ⟨i, row, pl, hfl, hr, hp, e.symm⟩), fun _ _ k => k, fun j q k k' => by rw [k'] at k; simp at k⟩
  unfold killR at hk
  split at hk
  · rename_i h0
    split at hk
    · rename_i hF
      simp at hk; subst hk
      have hnone : ∀ j, s.heap.get j = none → j ≠ i := fun j hj e => by rw [e, hr] at hj; simp at hj
      refine ⟨⟨Nat.le_succ _, rfl, fun j hj _ => ?_, fun j hj => ?_⟩, fr (Nat.le_succ _), ⟨?_, fun j r hj q ch hq => ?_, Nat.le_succ_of_le hS.fln⟩⟩
      · show (s.heap.set i _).get j = none
        rw [T.get_set, if_neg (hnone j hj)]; exact hj
      · have hj' : (s.heap.set i ⟨s.next, row.exact, row.sz, row.cs, row.ty⟩).get j = none := hj
        rw [T.get_set] at hj'
        split at hj'
        · simp at hj'
        · exact hj'
      · refine kill_sat (f := s.next) hS.sat (hv_some.2 ⟨row, hr, rfl⟩) hp hfl hex hn0 (.inr ⟨h0, hF⟩) (fun j => ?_) (fun g => ?_) hmem hsh
        · unfold St.hv
          rw [T.get_set]
          split <;> rfl
        · exact T.get_set _ _ _ _
      · have hj' : (s.heap.set i ⟨s.next, row.exact, row.sz, row.cs, row.ty⟩).get j = some r := hj
        rw [T.get_set] at hj'
        split at hj'
        · simp at hj'; subst hj'; exact hS.wf i row hr q ch hq
        · exact hS.wf j r hj' q ch hq
    · simp at hk
  · rename_i f hf
    simp at hk; subst hk
    refine ⟨⟨Nat.le_refl _, rfl, fun j hj _ => hj, fun j hj => hj⟩, fr (Nat.le_refl _), ⟨?_, hS.wf, hS.fln⟩⟩
    refine kill_sat (f := row.fam) hS.sat (hv_some.2 ⟨row, hr, rfl⟩) hp hfl hex hf (.inl rfl) (fun j => ?_) (fun g => ?_) hmem hsh
    · show s.hv j = _
      split
      · rename_i e; subst e; exact hv_some.2 ⟨row, hr, rfl⟩
      · rfl
    · exact T.get_set _ _ _ _

/-- what is known of package strings' Builder in a program: tb its type, tu that of bytes -/
structure BldOk (P : Program) (fC fS : FuncId) (tb tu : Nat) : Prop where
  fresh : ∀ b w, w.cell? ⟨b, 0, none⟩ = some (.pointer none) → w.shape? b = some (tb, 2) → w.frozen? ⟨b, 0, none⟩ = false →
    Calls P fC #[.pointer (some ⟨b, 0, none⟩)] w fun e w' => e = .returned (.tuple #[]) ∧ w' = w.setCell ⟨b, 0, none⟩ (.pointer (some ⟨b, 0, none⟩))
  used : ∀ b w, w.cell? ⟨b, 0, none⟩ = some (.pointer (some ⟨b, 0, none⟩)) → Calls P fC #[.pointer (some ⟨b, 0, none⟩)] w fun e w' => e = .returned (.tuple #[]) ∧ w' = w
  nil : ∀ b w, w.cell? ⟨b, 1, none⟩ = some (.slice none 0 0) → Calls P fS #[.pointer (some ⟨b, 0, none⟩)] w fun e w' => e = .returned (.string .empty) ∧ Below w.heap.size w w'
  row : ∀ b g c cells (l : List UInt8) w, w.cell? ⟨b, 1, none⟩ = some (.slice (some ⟨g, 0, none⟩) l.length c) → w.shape? g = some (tu, cells) → l ≠ [] → l.length ≤ cells → l.length ≤ 1000000000 → l.length ≤ c →
    (∀ j x, l[j]? = some x → w.cell? ((⟨g, 0, none⟩ : Addr).add j) = some (.int .u8 (x.toNat : Int))) → Calls P fS #[.pointer (some ⟨b, 0, none⟩)] w fun e w' => e = .returned (.string ⟨l.toArray⟩) ∧ w' = w.drew.freeze ⟨g, 0, none⟩ l.length
  enC : Enters P fC
  enS : Enters P fS
noncomputable def copyR (s : St) (id : Nat) (l : List AV) : R := match l with
  | [y] => match y with
    | .nilp => ob (storeC s id 0 [.ptr id 0]) fun s' => some (.tup [], s')
    | .ptr i o => bi ((Nat.beq i id).and (Nat.beq o 0)) (some (.tup [], s)) none
    | _ => none
  | _ => none
noncomputable def hCopy (tb : Nat) : List AV → St → R := fun args s => match args with
  | [x] => match x with
    | .ptr id off => bi (Nat.beq off 0) (ob (loadC s id 0 1) fun l => ob (s.heap.get id) fun row => bi ((Nat.beq row.ty (Nat.succ tb)).and (row.exact.and ((Nat.beq row.sz 2).and (readable s id row.fam)))) (copyR s id l) none) none
    | _ => none
  | _ => none
noncomputable def strR (tu : Nat) (s : St) (l : List AV) : R := match l with
  | [y] => match y with
    | .nils => some (.str 0 0, s)
    | .slc i o n _ _ => bi ((Nat.blt 0 n).and (Nat.ble n 1000000000)) (ob (s.heap.get i) fun row => ob (elemsN s 1 i o n) fun l => ob (packL l) fun b =>
        bi ((Nat.beq o 0).and ((Nat.beq row.ty (Nat.succ tu)).and ((Nat.ble s.floor i).and ((row.exact.not).and (Nat.blt 0 s.next))))) (ob (killR s i row) fun s' => some (.str n b, s')) none) none
    | _ => none
  | _ => none
noncomputable def hStr (tb tu : Nat) : List AV → St → R := fun args s => match args with
  | [x] => match x with
    | .ptr id off => bi (Nat.beq off 0) (ob (loadC s id 1 1) fun l => ob (s.heap.get id) fun row => bi ((Nat.beq row.ty (Nat.succ tb)).and row.exact) (strR tu s l) none) none
    | _ => none
  | _ => none

theorem one_arg {x : AV} {vs : Array Value} (h : VL sy ρ [x] vs.toList) : ∃ u, vs = #[u] ∧ V sy ρ x u := by
  obtain ⟨u, q, e1, k1, k2⟩ := h
  have hq : q = [] := k2
  subst hq
  exact ⟨u, by apply Array.ext'; simpa using e1, k1⟩
/-- where a builder lies -/
theorem bld_at {s : St} {w : World} {id : Nat} {row : Row} {tb : Nat} (hS : SatS sy ρ s w) (hr : s.heap.get id = some row) (hty : row.ty = tb + 1) (hex : row.exact = true) :
    ∃ pl, ρ id = some pl ∧ pl.base = 0 ∧ pl.size = row.sz ∧ w.shape? pl.blk = some (tb, pl.size) ∧ ∀ o, w.frozen? ⟨pl.blk, o, none⟩ = false := by
  obtain ⟨pl, g1, g2, g3, g4⟩ := hS.sat.rows id row.v (hv_some.2 ⟨row, hr, rfl⟩)
  obtain ⟨el, hsh⟩ := g4.shape
  rcases g4.typ _ hsh with q | ⟨q, q2⟩
  · have : row.ty = 0 := q
    omega
  · have q' : row.ty = el + 1 := q
    have : el = tb := Nat.succ.inj (q'.symm.trans hty)
    subst this
    exact ⟨pl, g1, q2.1, q2.2 hex, hsh, g4.plain hex⟩
theorem range_one {w : World} {b o : Nat} {v : Value} (h : w.rangeAt b o [v]) : w.cell? ⟨b, o, none⟩ = some v := by
  have := h 0 v rfl
  simpa using this
theorem hCopy_ok {ov : OV} {fC fS : FuncId} {tb tu : Nat} (ho : OvOk sy P ov) (hB : BldOk P fC fS tb tu) : OvOk sy P (T.set ov fC (hCopy tb)) := by
  have hinv : ∀ args s v s', hCopy tb args s = some (v, s') → ∃ id l row, args = [.ptr id 0] ∧ loadC s id 0 1 = some l ∧ s.heap.get id = some row ∧ row.ty = tb + 1 ∧ row.exact = true ∧ row.sz = 2 ∧ v = .tup [] ∧
      ((l = [.nilp] ∧ storeC s id 0 [.ptr id 0] = some s') ∨ (l = [.ptr id 0] ∧ s' = s)) := by
    intro args s v s' h
    unfold hCopy at h
    split at h
    · split at h
      · rename_i id off
        simp only [bi_some, ob_some] at h
        obtain ⟨h1, l, h2, row, h3, h4, h5⟩ := h
        simp at h1 h4
        subst h1
        refine ⟨id, l, row, rfl, h2, h3, h4.1, h4.2.1, h4.2.2.1, ?_⟩
        unfold copyR at h5
        split at h5
        · split at h5
          · simp only [ob_some] at h5
            obtain ⟨s1, k1, k2⟩ := h5
            simp at k2
            exact ⟨k2.1.symm, .inl ⟨rfl, by rw [← k2.2]; exact k1⟩⟩
          · rename_i i o
            rw [bi_some] at h5
            obtain ⟨k1, k2⟩ := h5
            simp at k1 k2
            rw [k1.1, k1.2]
            exact ⟨k2.1.symm, .inr ⟨rfl, k2.2.symm⟩⟩
          · simp at h5
        · simp at h5
      · simp at h
    · simp at h
  refine ho.set (fun ρ args s s' v w vs hS hl hfr hh => ?_) hB.enC (fun args s v s' hh => ?_)
  · obtain ⟨id, l, row, rfl, h1, h2, h3, h4, h5, rfl, h6⟩ := hinv _ _ _ _ hh
    obtain ⟨u, rfl, k1⟩ := one_arg hl
    obtain ⟨pl, g1, g2, g3, g4, g5⟩ := bld_at hS h2 h3 h4
    obtain ⟨pl', e1, e2⟩ := k1
    rw [g1] at e1; simp at e1; subst e1
    rw [g2] at e2
    subst e2
    obtain ⟨pl', vs, e1, q1, q2, q3, q4⟩ := loadC_at hS h1
    rw [g1] at e1; simp at e1; subst e1
    rw [g2] at q4
    rcases h6 with ⟨rfl, h6⟩ | ⟨rfl, rfl⟩
    · obtain ⟨y, r, rfl, m1, m2⟩ := q1
      have hr : r = [] := m2
      subst hr
      have hy : y = .pointer none := m1
      subst hy
      have hc := range_one q4
      refine (hB.fresh _ w hc (by rw [g4, g3, h5]) (g5 0)).mono fun e w' ⟨x1, x2⟩ => ?_
      obtain ⟨pl', e1, e2, e3, e4⟩ := storeC_out (us := [.pointer (some ⟨pl.blk, 0, none⟩)]) hS h6 ⟨_, [], rfl, ⟨pl, g1, by rw [g2]⟩, rfl⟩ (by intro u hu; simp at hu; subst hu; trivial)
      rw [g1] at e1; simp at e1; subst e1
      rw [g2] at e3
      refine ⟨ρ, _, x1, ?_, ⟨#[], rfl, rfl⟩⟩
      rw [x2]
      exact e3
    · obtain ⟨y, r, rfl, m1, m2⟩ := q1
      have hr : r = [] := m2
      subst hr
      obtain ⟨pl', e1, e2⟩ := m1
      rw [g1] at e1; simp at e1; subst e1
      rw [g2] at e2
      subst e2
      have hc := range_one q4
      refine (hB.used _ w hc).mono fun e w' ⟨x1, x2⟩ => ?_
      subst x2
      exact ⟨ρ, _, x1, .refl hS, ⟨#[], rfl, rfl⟩⟩
  · obtain ⟨id, l, row, rfl, h1, h2, h3, h4, h5, rfl, h6⟩ := hinv _ _ _ _ hh
    rcases h6 with ⟨_, h6⟩ | ⟨_, rfl⟩
    · exact Nat.le_of_eq (storeC_next h6).symm
    · exact Nat.le_refl _
theorem killR_next {s s' : St} {i : Nat} {row : Row} (h : killR s i row = some s') : s.next ≤ s'.next := by
  unfold killR at h
  split at h
  · split at h
    · simp at h; subst h; exact Nat.le_succ _
    · simp at h
  · simp at h; subst h; exact Nat.le_refl _
theorem hStr_ok {ov : OV} {fC fS : FuncId} {tb tu : Nat} (ho : OvOk sy P ov) (hB : BldOk P fC fS tb tu) : OvOk sy P (T.set ov fS (hStr tb tu)) := by
  have hinv : ∀ args s v s', hStr tb tu args s = some (v, s') → ∃ id l row, args = [.ptr id 0] ∧ loadC s id 1 1 = some l ∧ s.heap.get id = some row ∧ row.ty = tb + 1 ∧ row.exact = true ∧
      ((l = [.nils] ∧ v = .str 0 0 ∧ s' = s) ∨ ∃ i n c z rw' els b, l = [.slc i 0 n c z] ∧ 0 < n ∧ n ≤ 1000000000 ∧ s.heap.get i = some rw' ∧ elemsN s 1 i 0 n = some els ∧ packL els = some b ∧ rw'.ty = tu + 1 ∧ s.floor ≤ i ∧ rw'.exact = false ∧ 0 < s.next ∧ killR s i rw' = some s' ∧ v = .str n b) := by
    intro args s v s' h
    unfold hStr at h
    split at h
    · split at h
      · rename_i id off
        simp only [bi_some, ob_some] at h
        obtain ⟨h1, l, h2, row, h3, h4, h5⟩ := h
        simp at h1 h4
        subst h1
        refine ⟨id, l, row, rfl, h2, h3, h4.1, h4.2, ?_⟩
        unfold strR at h5
        split at h5
        · split at h5
          · simp at h5
            exact .inl ⟨rfl, h5.1.symm, h5.2.symm⟩
          · rename_i i o n c z
            simp only [bi_some, ob_some] at h5
            obtain ⟨k1, rw', k2, els, k3, b, k4, k5, s1, k6, k7⟩ := h5
            simp at k1 k5 k7
            obtain ⟨k0, k5⟩ := k5
            subst k0
            exact .inr ⟨i, n, c, z, rw', els, b, rfl, k1.1, k1.2, k2, k3, k4, k5.1, k5.2.1, k5.2.2.1, k5.2.2.2, by rw [← k7.2]; exact k6, k7.1.symm⟩
          · simp at h5
        · simp at h5
      · simp at h
    · simp at h
  refine ho.set (fun ρ args s s' v w vs hS hl hfr hh => ?_) hB.enS (fun args s v s' hh => ?_)
  · obtain ⟨id, l, row, rfl, h1, h2, h3, h4, h6⟩ := hinv _ _ _ _ hh
    obtain ⟨u, rfl, k1⟩ := one_arg hl
    obtain ⟨pl, g1, g2, g3, g4, g5⟩ := bld_at hS h2 h3 h4
    obtain ⟨pl', e1, e2⟩ := k1
    rw [g1] at e1; simp at e1; subst e1
    rw [g2] at e2
    subst e2
    obtain ⟨pl', vs, e1, q1, q2, q3, q4⟩ := loadC_at hS h1
    rw [g1] at e1; simp at e1; subst e1
    rw [g2] at q4
    rcases h6 with ⟨rfl, rfl, rfl⟩ | ⟨i, n, c, z, rw', els, b, rfl, n0, n9, r1, r2, r3, r4, r5, r6, r7, r8, rfl⟩
    · obtain ⟨y, r, rfl, m1, m2⟩ := q1
      have hr : r = [] := m2
      subst hr
      have hy : y = .slice none 0 0 := m1
      subst hy
      have hc := range_one q4
      refine (hB.nil _ w hc).mono fun e w' ⟨x1, x2⟩ => ?_
      exact ⟨ρ, _, x1, .below hS x2, ⟨.empty, rfl, rfl, rfl⟩⟩
    · obtain ⟨y, r, rfl, m1, m2⟩ := q1
      have hr : r = [] := m2
      subst hr
      obtain ⟨pb, c', o', b1, b2, b3, b4⟩ := m1
      subst b4
      have hc := range_one q4
      obtain ⟨ws, c1, c2⟩ := elemsN_at hS r2
      obtain ⟨pb', d1, d2, d3⟩ := c2 (by omega)
      rw [b1] at d1; simp at d1; subst d1
      have ho' := b3 (by have := b2.1; have := b2.2.1; omega)
      subst ho'
      obtain ⟨us, u1, u2, u3⟩ := packL_inv r3 c1.vals
      have hul : us.length = n := by rw [u2, c1.len]
      subst hul
      obtain ⟨pb', v1, v2, v3, v4⟩ := hS.sat.rows i rw'.v (hv_some.2 ⟨rw', r1, rfl⟩)
      rw [b1] at v1; simp at v1; subst v1
      obtain ⟨el, hsh⟩ := v4.shape
      obtain ⟨hU, hbase⟩ : el = tu ∧ pb.base = 0 := by
        rcases v4.typ _ hsh with q | ⟨q, q2, _⟩
        · have : rw'.ty = 0 := q
          omega
        · have : rw'.ty = el + 1 := q
          exact ⟨Nat.succ.inj (this.symm.trans r4), q2⟩
      subst hU
      have hcell : ∀ j x, us[j]? = some x → w.cell? ⟨pb.blk, j, none⟩ = some (.int .u8 (x.toNat : Int)) := by
        intro j x hj
        have := d3 j (.int .u8 (x.toNat : Int)) (by rw [u1, List.getElem?_map, hj]; rfl)
        simpa [hbase] using this
      have hlast : us.length ≤ pb.size := by
        have hj : us.length - 1 < us.length := by omega
        have := hcell (us.length - 1) _ (List.getElem?_eq_getElem hj)
        have h2 := (cell_of_shape hsh _).1 (by rw [this]; rfl)
        omega
      have hle : us.length ≤ c' := Nat.le_trans b2.1 b2.2.1
      obtain ⟨f1, f2, f3, f4, f5, f6⟩ := freeze_facts w.drew ⟨pb.blk, 0, none⟩ us.length
      refine (hB.row pl.blk pb.blk c' pb.size us w (by simpa [hbase] using hc) hsh (by intro e; rw [e] at n0; simp at n0) hlast n9 hle (fun j x hj => by
        have e : (⟨pb.blk, 0, none⟩ : Addr).add j = ⟨pb.blk, j, none⟩ := by unfold Addr.add; split <;> simp_all
        rw [e]; exact hcell j x hj)).mono fun e w' ⟨x1, x2⟩ => ?_
      subst x2
      exact ⟨ρ, _, x1, kill_out hS r1 b1 r5 r6 r8 (by omega) f1 f2 f3 f4 f5 f6, ⟨_, rfl, rfl, u3.symm⟩⟩
  · obtain ⟨id, l, row, rfl, h1, h2, h3, h4, h6⟩ := hinv _ _ _ _ hh
    rcases h6 with ⟨_, _, rfl⟩ | ⟨i, n, c, z, rw', els, b, _, _, _, _, _, _, _, _, _, _, r8, _⟩
    · exact Nat.le_refl _
    · exact killR_next r8
end Go.Ex
