/- A made program, its first function changed in its own rows. No conditions. -/
import Derived.Test.YtoidogfnjpmceaaDoorGc4
namespace Go.Proofs.YtoidogfnjpmceaaDoor
open Go.ChangeShapes Go.WideShapes Go.ChangeAt Go.RowKit

theorem keep_set {w : World} {F : List Nat} {g j : Nat} {v : Value} (h : ∀ b ∈ F, b ≠ g) : KeepF w (w.setCell ⟨g, j, none⟩ v) F := ⟨by rw [set_size]; exact Nat.le_refl _, fun b hb => Below.heap_setCell _ _ _ _ (h b hb)⟩
theorem owns_set {w : World} {E k n g cap j : Nat} {xs : List Value} (val : Value) (h : w.ownsRow 0 E k (.slice (some ⟨g, 0, none⟩) n cap) n xs) : (w.setCell ⟨g, j, none⟩ val).ownsRow 0 E k (.slice (some ⟨g, 0, none⟩) n cap) n (xs.set j val) := by
  refine ⟨by rw [List.length_set]; exact h.1, ?_⟩
  rcases h.2 with ⟨hn, _⟩ | ⟨g', cap', cur, hv, hb, hgg, h1, h2, h3, htk⟩
  · cases hn
  · injection hv with e1 e2 e3
    injection e1 with e1
    injection e1 with e1
    subst e1 e3
    exact .inr ⟨g, cap, cur.setIfInBounds j val, rfl, hb, row_set val hgg, h1, h2, by simpa using h3, by rw [Array.toList_setIfInBounds, ← htk, List.take_set]⟩
theorem owns_frozen {w : World} {E k n g cap : Nat} {xs : List Value} (h : w.ownsRow 0 E k (.slice (some ⟨g, 0, none⟩) n cap) n xs) (j : Nat) : w.frozen? ⟨g, j, none⟩ = false := by
  rcases h.2 with ⟨hn, _⟩ | ⟨g', cap', cur, hv, hb, hgg, _⟩
  · cases hn
  · injection hv with e1 e2 e3
    injection e1 with e1
    injection e1 with e1
    subst e1
    simp [World.frozen?, hgg]
theorem owns_cell {w : World} {E k n g cap : Nat} {xs : List Value} {j : Nat} {v : Value} (h : w.ownsRow 0 E k (.slice (some ⟨g, 0, none⟩) n cap) n xs) (hj : xs[j]? = some v) : w.cell? ⟨g, j, none⟩ = some v := by
  have hl : j < xs.length := (List.getElem?_eq_some_iff.1 hj).1
  have := (owns_cells h).2 j hl
  rw [Nat.zero_add] at this
  rw [this, hj]

/-- What is known of a row of functions, the first one's parts and its first step's named. -/
structure FnAt (w : World) (g n cap g2 n2 cap2 : Nat) (nm : ByteArray) (params : List ByteArray) (op : Int) (to sn : ByteArray) (t : Tg) (vals : List Vl) (alts : St) (num : Int) (rs : St) (r : List Fn) (v1 u1 u2 : Value) (xs ys : List Value) (Fp Fv Fa Fs Fr : List Nat) : Prop where
  len : n ≤ reach
  pos : 0 < n
  own : w.ownsRow 0 42 3 (.slice (some ⟨g, 0, none⟩) n cap) n ([.string nm, v1, .slice (some ⟨g2, 0, none⟩) n2 cap2] ++ xs)
  nms : nm.size ≤ reach
  wst : (St.step op to sn t vals alts num rs).wf true
  rp : RowO 9 1 w v1 params.length Fp (fun xs F => TxO params xs F)
  len2 : n2 ≤ reach
  pos2 : 0 < n2
  eq2 : n2 = rs.len + 1
  own2 : w.ownsRow 0 29 9 (.slice (some ⟨g2, 0, none⟩) n2 cap2) n2 ([.int .i64 op, .string to, .string sn, .int .i64 t.k, .string t.s, .int .i64 t.n, u1, u2, .int .i64 num] ++ ys)
  wfs : wf64 op ∧ to.size ≤ reach ∧ sn.size ≤ reach ∧ wf64 t.k ∧ t.s.size ≤ reach ∧ wf64 t.n ∧ wf64 num
  rv : RowO 36 3 w u1 vals.length Fv (fun xs F => VlO vals xs F)
  ra : RowO 63 6 w u2 alts.len Fa (fun xs F => StO w alts xs F)
  rss : StO w rs ys Fs
  rr : FnO w r xs Fr
abbrev rowsOf (g g2 : Nat) (Fp Fv Fa Fs Fr : List Nat) : List Nat := g :: (Fp ++ (g2 :: (Fv ++ Fa ++ Fs)) ++ Fr)
theorem fn_opened {w : World} {v : Value} {n : Nat} {F : List Nat} {nm : ByteArray} {params : List ByteArray} {op : Int} {to sn : ByteArray} {t : Tg} {vals : List Vl} {alts : St} {num : Int} {rs : St} {r : List Fn} (h : RowO 42 3 w v n F (fun xs F => FnO w (⟨nm, params, .step op to sn t vals alts num rs⟩ :: r) xs F)) (hn : 0 < n) :
    ∃ g cap g2 n2 cap2 v1 u1 u2 xs ys Fp Fv Fa Fs Fr, v = .slice (some ⟨g, 0, none⟩) n cap ∧ F = rowsOf g g2 Fp Fv Fa Fs Fr ∧ FnAt w g n cap g2 n2 cap2 nm params op to sn t vals alts num rs r v1 u1 u2 xs ys Fp Fv Fa Fs Fr := by
  rcases h with ⟨h0, -⟩ | ⟨-, hn2, g, cap, zs, F', rfl, ho, ⟨v1, v2, xs, Fp, Fz, Fr, e1, e2, k1, k2, k3, k4, k5⟩, rfl⟩
  · omega
  · rcases k4 with ⟨h0, -⟩ | ⟨p1, p2, g2, cap2, ys', F2', rfl, ho2, ⟨u1, u2, ys, Fv, Fa, Fs, f1, f2, q1, q2, q3, q4, q5, q6, q7, q8, q9, q10, q11⟩, rfl⟩
    · simp [St.len] at h0
    · subst e1 e2 f1 f2
      exact ⟨g, cap, g2, _, cap2, v1, u1, u2, xs, ys, Fp, Fv, Fa, Fs, Fr, rfl, rfl, hn2, hn, ho, k1, k2, k3, p2, p1, rfl, ho2, ⟨q1, q2, q3, q4, q5, q6, q7⟩, q9, q10, q11, k5⟩
section
variable {w : World} {g n cap g2 n2 cap2 : Nat} {nm : ByteArray} {params : List ByteArray} {op : Int} {to sn : ByteArray} {t : Tg} {vals : List Vl} {alts : St} {num : Int} {rs : St} {r : List Fn} {v1 u1 u2 : Value} {xs ys : List Value} {Fp Fv Fa Fs Fr : List Nat}
theorem FnAt.close (h : FnAt w g n cap g2 n2 cap2 nm params op to sn t vals alts num rs r v1 u1 u2 xs ys Fp Fv Fa Fs Fr) : RowO 42 3 w (.slice (some ⟨g, 0, none⟩) n cap) n (rowsOf g g2 Fp Fv Fa Fs Fr) (fun xs F => FnO w (⟨nm, params, .step op to sn t vals alts num rs⟩ :: r) xs F) :=
  .inr ⟨h.pos, h.len, g, cap, _, _, rfl, h.own, ⟨v1, .slice (some ⟨g2, 0, none⟩) n2 cap2, xs, Fp, g2 :: (Fv ++ Fa ++ Fs), Fr, rfl, rfl, h.nms, h.wst, h.rp, by
    show RowO _ _ _ _ (rs.len + 1) _ _
    rw [← h.eq2]
    exact .inr ⟨h.pos2, h.len2, g2, cap2, _, _, rfl, h.own2, ⟨u1, u2, ys, Fv, Fa, Fs, rfl, rfl, h.wfs.1, h.wfs.2.1, h.wfs.2.2.1, h.wfs.2.2.2.1, h.wfs.2.2.2.2.1, h.wfs.2.2.2.2.2.1, h.wfs.2.2.2.2.2.2, h.wst.2.1, h.rv, h.ra, h.rss⟩, rfl⟩, h.rr⟩, rfl⟩
theorem FnAt.re (h : FnAt w g n cap g2 n2 cap2 nm params op to sn t vals alts num rs r v1 u1 u2 xs ys Fp Fv Fa Fs Fr) {w' : World} {nm' : ByteArray} {op' : Int} {t' : Tg} {vals' : List Vl} {num' : Int} (hnm : nm'.size ≤ reach) (hfs : wf64 op' ∧ wf64 t'.k ∧ t'.s.size ≤ reach ∧ wf64 t'.n ∧ wf64 num')
    (ho : w'.ownsRow 0 42 3 (.slice (some ⟨g, 0, none⟩) n cap) n ([.string nm', v1, .slice (some ⟨g2, 0, none⟩) n2 cap2] ++ xs)) (ho2 : w'.ownsRow 0 29 9 (.slice (some ⟨g2, 0, none⟩) n2 cap2) n2 ([.int .i64 op', .string to, .string sn, .int .i64 t'.k, .string t'.s, .int .i64 t'.n, u1, u2, .int .i64 num'] ++ ys))
    (kp : KeepF w w' Fp) (rv' : RowO 36 3 w' u1 vals'.length Fv (fun xs F => VlO vals' xs F)) (ka : KeepF w w' Fa) (ks : KeepF w w' Fs) (kr : KeepF w w' Fr) : FnAt w' g n cap g2 n2 cap2 nm' params op' to sn t' vals' alts num' rs r v1 u1 u2 xs ys Fp Fv Fa Fs Fr :=
  ⟨h.len, h.pos, ho, hnm, ⟨rfl, h.wst.2⟩, h.rp.keep kp fun _ _ _ hp => hp, h.len2, h.pos2, h.eq2, ho2, ⟨hfs.1, h.wfs.2.1, h.wfs.2.2.1, hfs.2.1, hfs.2.2.1, hfs.2.2.2.1, hfs.2.2.2.2⟩, rv', h.ra.keep ka fun _ _ hs hp => StO.keep hp (ka.sub hs), StO.keep h.rss ks, FnO.keep h.rr kr⟩
theorem FnAt.keep (h : FnAt w g n cap g2 n2 cap2 nm params op to sn t vals alts num rs r v1 u1 u2 xs ys Fp Fv Fa Fs Fr) {w' : World} (hk : KeepF w w' (rowsOf g g2 Fp Fv Fa Fs Fr)) : FnAt w' g n cap g2 n2 cap2 nm params op to sn t vals alts num rs r v1 u1 u2 xs ys Fp Fv Fa Fs Fr :=
  h.re h.nms ⟨h.wfs.1, h.wfs.2.2.2.1, h.wfs.2.2.2.2.1, h.wfs.2.2.2.2.2.1, h.wfs.2.2.2.2.2.2⟩ (owns_keep h.own (hk.2 g (by simp))) (owns_keep h.own2 (hk.2 g2 (by simp))) (hk.sub fun b hb => by simp [hb]) (h.rv.keep (hk.sub fun b hb => by simp [hb]) fun _ _ _ hp => hp) (hk.sub fun b hb => by simp [hb]) (hk.sub fun b hb => by simp [hb]) (hk.sub fun b hb => by simp [hb])
/-- Which rows differ from which. -/
theorem rows_apart (hnd : (rowsOf g g2 Fp Fv Fa Fs Fr).Nodup) : g2 ≠ g ∧ (∀ b, b ∈ Fp ∨ b ∈ Fv ∨ b ∈ Fa ∨ b ∈ Fs ∨ b ∈ Fr → b ≠ g ∧ b ≠ g2) ∧ (∀ b ∈ Fv, ∀ c, c ∈ Fp ∨ c ∈ Fa ∨ c ∈ Fs ∨ c ∈ Fr → c ≠ b) := by
  simp only [rowsOf, List.nodup_cons, List.nodup_append, List.mem_append, List.mem_cons] at hnd
  obtain ⟨h1, ⟨h2, ⟨h3, ⟨⟨h4, h5, h6⟩, h7, h8⟩⟩, h9⟩, h10, h11⟩ := hnd
  refine ⟨fun e => h1 (by simp [e]), fun b hb => ⟨fun e => ?_, fun e => ?_⟩, fun b hb c hc e => ?_⟩
  · subst e
    rcases hb with h | h | h | h | h <;> exact h1 (by simp [h])
  · subst e
    rcases hb with h | h | h | h | h
    · exact h9 b h b (by simp) rfl
    · exact h3 (by simp [h])
    · exact h3 (by simp [h])
    · exact h3 (by simp [h])
    · exact h11 b (by simp) b h rfl
  · subst e
    rcases hc with h | h | h | h
    · exact h9 c h c (by simp [hb]) rfl
    · exact h6 c hb c h rfl
    · exact h8 c (by simp [hb]) c h rfl
    · exact h11 c (by simp [hb]) c h rfl
theorem FnAt.setNum (h : FnAt w g n cap g2 n2 cap2 nm params op to sn t vals alts num rs r v1 u1 u2 xs ys Fp Fv Fa Fs Fr) (hnd : (rowsOf g g2 Fp Fv Fa Fs Fr).Nodup) {k : Int} (hk : wf64 k) : FnAt (w.setCell ⟨g2, 8, none⟩ (.int .i64 k)) g n cap g2 n2 cap2 nm params op to sn t vals alts k rs r v1 u1 u2 xs ys Fp Fv Fa Fs Fr := by
  obtain ⟨a1, a2, a3⟩ := rows_apart hnd
  have kk : ∀ {F : List Nat}, (∀ b ∈ F, b ≠ g2) → KeepF w (w.setCell ⟨g2, 8, none⟩ (.int .i64 k)) F := fun hF => keep_set hF
  exact h.re h.nms ⟨h.wfs.1, h.wfs.2.2.2.1, h.wfs.2.2.2.2.1, h.wfs.2.2.2.2.2.1, hk⟩ (owns_keep h.own (Below.heap_setCell _ _ _ _ (Ne.symm a1))) (owns_set (j := 8) (.int .i64 k) h.own2) (kk fun b hb => (a2 b (by simp [hb])).2) (h.rv.keep (kk fun b hb => (a2 b (by simp [hb])).2) fun _ _ _ hp => hp) (kk fun b hb => (a2 b (by simp [hb])).2) (kk fun b hb => (a2 b (by simp [hb])).2) (kk fun b hb => (a2 b (by simp [hb])).2)
theorem FnAt.setTag (h : FnAt w g n cap g2 n2 cap2 nm params op to sn t vals alts num rs r v1 u1 u2 xs ys Fp Fv Fa Fs Fr) (hnd : (rowsOf g g2 Fp Fv Fa Fs Fr).Nodup) {k : Int} (hk : wf64 k) : FnAt (w.setCell ⟨g2, 5, none⟩ (.int .i64 k)) g n cap g2 n2 cap2 nm params op to sn ⟨t.k, t.s, k⟩ vals alts num rs r v1 u1 u2 xs ys Fp Fv Fa Fs Fr := by
  obtain ⟨a1, a2, a3⟩ := rows_apart hnd
  have kk : ∀ {F : List Nat}, (∀ b ∈ F, b ≠ g2) → KeepF w (w.setCell ⟨g2, 5, none⟩ (.int .i64 k)) F := fun hF => keep_set hF
  exact h.re h.nms ⟨h.wfs.1, h.wfs.2.2.2.1, h.wfs.2.2.2.2.1, hk, h.wfs.2.2.2.2.2.2⟩ (owns_keep h.own (Below.heap_setCell _ _ _ _ (Ne.symm a1))) (owns_set (j := 5) (.int .i64 k) h.own2) (kk fun b hb => (a2 b (by simp [hb])).2) (h.rv.keep (kk fun b hb => (a2 b (by simp [hb])).2) fun _ _ _ hp => hp) (kk fun b hb => (a2 b (by simp [hb])).2) (kk fun b hb => (a2 b (by simp [hb])).2) (kk fun b hb => (a2 b (by simp [hb])).2)
theorem FnAt.setName (h : FnAt w g n cap g2 n2 cap2 nm params op to sn t vals alts num rs r v1 u1 u2 xs ys Fp Fv Fa Fs Fr) (hnd : (rowsOf g g2 Fp Fv Fa Fs Fr).Nodup) {s : ByteArray} (hk : s.size ≤ reach) : FnAt (w.setCell ⟨g, 0, none⟩ (.string s)) g n cap g2 n2 cap2 s params op to sn t vals alts num rs r v1 u1 u2 xs ys Fp Fv Fa Fs Fr := by
  obtain ⟨a1, a2, a3⟩ := rows_apart hnd
  have kk : ∀ {F : List Nat}, (∀ b ∈ F, b ≠ g) → KeepF w (w.setCell ⟨g, 0, none⟩ (.string s)) F := fun hF => keep_set hF
  exact h.re hk ⟨h.wfs.1, h.wfs.2.2.2.1, h.wfs.2.2.2.2.1, h.wfs.2.2.2.2.2.1, h.wfs.2.2.2.2.2.2⟩ (owns_set (j := 0) (.string s) h.own) (owns_keep h.own2 (Below.heap_setCell _ _ _ _ a1)) (kk fun b hb => (a2 b (by simp [hb])).1) (h.rv.keep (kk fun b hb => (a2 b (by simp [hb])).1) fun _ _ _ hp => hp) (kk fun b hb => (a2 b (by simp [hb])).1) (kk fun b hb => (a2 b (by simp [hb])).1) (kk fun b hb => (a2 b (by simp [hb])).1)
theorem FnAt.setVal {x : Vl} {vr : List Vl} (h : FnAt w g n cap g2 n2 cap2 nm params op to sn t (x :: vr) alts num rs r v1 u1 u2 xs ys Fp Fv Fa Fs Fr) (hnd : (rowsOf g g2 Fp Fv Fa Fs Fr).Nodup) :
    ∃ g3 cap3, u1 = .slice (some ⟨g3, 0, none⟩) (vr.length + 1) cap3 ∧ g3 ∈ Fv ∧ w.cell? ⟨g3, 2, none⟩ = some (.int .i64 x.n) ∧ w.frozen? ⟨g3, 2, none⟩ = false ∧ wf64 x.n ∧
      ∀ k, wf64 k → FnAt (w.setCell ⟨g3, 2, none⟩ (.int .i64 k)) g n cap g2 n2 cap2 nm params op to sn t (⟨x.k, x.s, k⟩ :: vr) alts num rs r v1 u1 u2 xs ys Fp Fv Fa Fs Fr := by
  obtain ⟨a1, a2, a3⟩ := rows_apart hnd
  have hrv := h.rv
  rcases hrv with ⟨h0, -⟩ | ⟨hp, hp2, g3, cap3, zs, Fv', rfl, ho3, ⟨rfl, hz, rfl⟩, rfl⟩
  · simp at h0
  · have h3 : g3 ∈ [g3] := by simp
    obtain ⟨b1, b2⟩ := a2 g3 (by simp)
    refine ⟨g3, cap3, rfl, h3, owns_cell ho3 rfl, owns_frozen ho3 2, (hz 0 (by simp)).2.2, fun k hk => ?_⟩
    have kk : ∀ {F : List Nat}, (∀ b ∈ F, b ≠ g3) → KeepF w (w.setCell ⟨g3, 2, none⟩ (.int .i64 k)) F := fun hF => keep_set hF
    refine h.re h.nms ⟨h.wfs.1, h.wfs.2.2.2.1, h.wfs.2.2.2.2.1, h.wfs.2.2.2.2.2.1, h.wfs.2.2.2.2.2.2⟩ (owns_keep h.own (Below.heap_setCell _ _ _ _ (Ne.symm b1))) (owns_keep h.own2 (Below.heap_setCell _ _ _ _ (Ne.symm b2))) (kk fun b hb => a3 g3 h3 b (by simp [hb])) ?_ (kk fun b hb => a3 g3 h3 b (by simp [hb])) (kk fun b hb => a3 g3 h3 b (by simp [hb])) (kk fun b hb => a3 g3 h3 b (by simp [hb]))
    refine .inr ⟨hp, hp2, g3, cap3, _, [], rfl, owns_set (j := 2) (.int .i64 k) ho3, ⟨rfl, fun i hi => ?_, rfl⟩, rfl⟩
    cases i with
    | zero => exact ⟨(hz 0 (by simp)).1, (hz 0 (by simp)).2.1, hk⟩
    | succ i => exact hz (i + 1) (by simpa using hi)
theorem FnAt.cells (h : FnAt w g n cap g2 n2 cap2 nm params op to sn t vals alts num rs r v1 u1 u2 xs ys Fp Fv Fa Fs Fr) : g < w.heap.size ∧ g2 < w.heap.size ∧ w.cell? ⟨g, 0, none⟩ = some (.string nm) ∧ w.cell? ⟨g, 2, none⟩ = some (.slice (some ⟨g2, 0, none⟩) n2 cap2) ∧ w.cell? ⟨g2, 5, none⟩ = some (.int .i64 t.n) ∧ w.cell? ⟨g2, 6, none⟩ = some u1 ∧ w.cell? ⟨g2, 8, none⟩ = some (.int .i64 num) ∧ (∀ j, w.frozen? ⟨g, j, none⟩ = false) ∧ ∀ j, w.frozen? ⟨g2, j, none⟩ = false :=
  ⟨(owns_cells h.own).1, (owns_cells h.own2).1, owns_cell h.own rfl, owns_cell h.own rfl, owns_cell h.own2 rfl, owns_cell h.own2 rfl, owns_cell h.own2 rfl, owns_frozen h.own, owns_frozen h.own2⟩
end
theorem wrap_range (n : Int) : -9223372036854775808 ≤ IntKind.i64.wrap n ∧ IntKind.i64.wrap n ≤ 9223372036854775807 := by
  have e3 : IntKind.i64.wrap n = if n % 18446744073709551616 ≥ 9223372036854775808 then n % 18446744073709551616 - 18446744073709551616 else n % 18446744073709551616 := by
    unfold IntKind.wrap
    simp [IntKind.bits, IntKind.signed]
  rw [e3]
  split <;> omega
theorem wrap_next {n : Int} (h : wf64 n) : wf64 (IntKind.i64.wrap (n + 1)) ∧ n ≠ IntKind.i64.wrap (n + 1) := by
  refine ⟨wrap_range _, ?_⟩
  obtain ⟨h1, h2⟩ := h
  by_cases he : n = 9223372036854775807
  · subst he; decide
  · rw [wrap64_i (by omega) (by omega)]; omega

section
variable {nm : ByteArray} {params : List ByteArray} {op : Int} {to sn : ByteArray} {t : Tg} {vals : List Vl} {alts : St} {num : Int} {rs : St} {r : List Fn}
theorem ne_num {k : Int} (h : num ≠ k) : fnEq (⟨nm, params, .step op to sn t vals alts num rs⟩ :: r) (⟨nm, params, .step op to sn t vals alts k rs⟩ :: r) = false ∧ fnEq (⟨nm, params, .step op to sn t vals alts k rs⟩ :: r) (⟨nm, params, .step op to sn t vals alts num rs⟩ :: r) = false := by
  have h1 : (num == k) = false := by simpa using h
  have h2 : (k == num) = false := by simpa using Ne.symm h
  exact ⟨by simp [fnEq, fnE, St.eq, h1], by simp [fnEq, fnE, St.eq, h2]⟩
theorem ne_name {s : ByteArray} (h : nm.toList ≠ s.toList) : fnEq (⟨nm, params, .step op to sn t vals alts num rs⟩ :: r) (⟨s, params, .step op to sn t vals alts num rs⟩ :: r) = false ∧ fnEq (⟨s, params, .step op to sn t vals alts num rs⟩ :: r) (⟨nm, params, .step op to sn t vals alts num rs⟩ :: r) = false := by
  have h1 : (nm.toList == s.toList) = false := by simpa using h
  have h2 : (s.toList == nm.toList) = false := by simpa using Ne.symm h
  exact ⟨by simp [fnEq, fnE, h1], by simp [fnEq, fnE, h2]⟩
theorem ne_tag {k : Int} (h : t.n ≠ k) : fnEq (⟨nm, params, .step op to sn t vals alts num rs⟩ :: r) (⟨nm, params, .step op to sn ⟨t.k, t.s, k⟩ vals alts num rs⟩ :: r) = false ∧ fnEq (⟨nm, params, .step op to sn ⟨t.k, t.s, k⟩ vals alts num rs⟩ :: r) (⟨nm, params, .step op to sn t vals alts num rs⟩ :: r) = false := by
  have h1 : (t.n == k) = false := by simpa using h
  have h2 : (k == t.n) = false := by simpa using Ne.symm h
  exact ⟨by simp [fnEq, fnE, St.eq, tgEq, h1], by simp [fnEq, fnE, St.eq, tgEq, h2]⟩
theorem ne_val {x : Vl} {vr : List Vl} {k : Int} (h : x.n ≠ k) : fnEq (⟨nm, params, .step op to sn t (x :: vr) alts num rs⟩ :: r) (⟨nm, params, .step op to sn t (⟨x.k, x.s, k⟩ :: vr) alts num rs⟩ :: r) = false ∧ fnEq (⟨nm, params, .step op to sn t (⟨x.k, x.s, k⟩ :: vr) alts num rs⟩ :: r) (⟨nm, params, .step op to sn t (x :: vr) alts num rs⟩ :: r) = false := by
  have h1 : (x.n == k) = false := by simpa using h
  have h2 : (k == x.n) = false := by simpa using Ne.symm h
  exact ⟨by simp [fnEq, fnE, St.eq, vlEq, vlE, h1], by simp [fnEq, fnE, St.eq, vlEq, vlE, h2]⟩
end
end Go.Proofs.YtoidogfnjpmceaaDoor
