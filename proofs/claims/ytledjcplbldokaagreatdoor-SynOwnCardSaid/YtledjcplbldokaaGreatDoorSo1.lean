/- A made program, its first definition changed in its own rows. No conditions. -/
import Derived.Test.YtledjcplbldokaaGreatDoorCl7
namespace Go.Proofs.YtledjcplbldokaaGreatDoor
open Go.ChangeShapes Go.WideShapes Go.ChangeAt Go.RowKit

theorem keep_set {w : World} {F : List Nat} {g j : Nat} {v : Value} (h : ∀ b ∈ F, b ≠ g) : KeepF w (w.setCell ⟨g, j, none⟩ v) F := ⟨by rw [set_size]; exact Nat.le_refl _, fun b hb => Below.heap_setCell _ _ _ _ (h b hb)⟩
theorem owns_set {w : World} {E k n g cap j : Nat} {xs : List Value} (val : Value) (h : w.ownsRow 0 E k (.slice (some ⟨g, 0, none⟩) n cap) n xs) : (w.setCell ⟨g, j, none⟩ val).ownsRow 0 E k (.slice (some ⟨g, 0, none⟩) n cap) n (xs.set j val) := by
  refine ⟨by rw [List.length_set]; exact h.1, ?_⟩
  rcases h.2 with ⟨hn, _⟩ | ⟨g', cap', cur, hv, hb, hgg, h1, h2, h3, htk⟩
  · cases hn
  · injection hv with e1 e2 e3
    injection e1 with e1
    injection e1 with e1
    subst e1 e3
    exact .inr ⟨g, cap, cur.setIfInBounds j val, rfl, hb, row_set val hgg, h1, h2, by simpa using h3, by rw [Array.toList_setIfInBounds, ← htk, List.take_set]⟩
theorem owns_frozen {w : World} {E k n g cap : Nat} {xs : List Value} (h : w.ownsRow 0 E k (.slice (some ⟨g, 0, none⟩) n cap) n xs) (j : Nat) : w.frozen? ⟨g, j, none⟩ = false := by
  rcases h.2 with ⟨hn, _⟩ | ⟨g', cap', cur, hv, hb, hgg, _⟩
  · cases hn
  · injection hv with e1 e2 e3
    injection e1 with e1
    injection e1 with e1
    subst e1
    simp [World.frozen?, hgg]
theorem owns_cell {w : World} {E k n g cap : Nat} {xs : List Value} {j : Nat} {v : Value} (h : w.ownsRow 0 E k (.slice (some ⟨g, 0, none⟩) n cap) n xs) (hj : xs[j]? = some v) : w.cell? ⟨g, j, none⟩ = some v := by
  have hl : j < xs.length := (List.getElem?_eq_some_iff.1 hj).1
  have := (owns_cells h).2 j hl
  rw [Nat.zero_add] at this
  rw [this, hj]

/-- What is known of a row of definitions, the first one's parts named. -/
structure DefAt (w : World) (g n cap : Nat) (dn : ByteArray) (dp : List ByteArray) (op : Int) (nm : ByteArray) (num : Int) (names : List ByteArray) (L alts : Ex) (r : List De) (v1 u1 u2 u3 : Value) (xs : List Value) (Fp Fn Fl Fa Fr : List Nat) : Prop where
  len : n ≤ reach
  pos : 0 < n
  own : w.ownsRow 0 37 8 (.slice (some ⟨g, 0, none⟩) n cap) n ([.string dn, v1, .int .i64 op, .string nm, .int .i64 num, u1, u2, u3] ++ xs)
  dn : dn.size ≤ reach
  op : wf64 op
  nm : nm.size ≤ reach
  num : wf64 num
  wl : L.wf true
  wa : alts.wf false
  rp : RowO 9 1 w v1 dp.length Fp (fun xs F => TxO dp xs F)
  rn : RowO 9 1 w u1 names.length Fn (fun xs F => TxO names xs F)
  rl : RowO 35 6 w u2 L.len Fl (fun xs F => ExO w L xs F)
  ra : RowO 83 10 w u3 alts.len Fa (fun xs F => ExO w alts xs F)
  rr : DeO w r xs Fr
abbrev rowsOf (g : Nat) (Fp Fn Fl Fa Fr : List Nat) : List Nat := g :: (Fp ++ (Fn ++ Fl ++ Fa ++ []) ++ Fr)
theorem def_open {w : World} {v : Value} {n : Nat} {F : List Nat} {d : De} {r : List De} (h : RowO 37 8 w v n F (fun xs F => DeO w (d :: r) xs F)) (hn : 0 < n) : ∃ g cap op nm num names L alts v1 u1 u2 u3 xs Fp Fn Fl Fa Fr,
    v = .slice (some ⟨g, 0, none⟩) n cap ∧ d.2.2 = .expr op nm num names L alts .nil ∧ F = rowsOf g Fp Fn Fl Fa Fr ∧ DefAt w g n cap d.1 d.2.1 op nm num names L alts r v1 u1 u2 u3 xs Fp Fn Fl Fa Fr := by
  rcases h with ⟨h0, -⟩ | ⟨-, hn2, g, cap, ys, F', rfl, ho, ⟨v1, zs, xs, Fp, Fe, Fr, e1, e2, e3, k1, k2, k3, k4, k5, k6⟩, rfl⟩
  · omega
  · obtain ⟨op, nm, num, names, L, alts, he⟩ := one_expr k2 k3
    rw [he] at k5 k2
    obtain ⟨u1, u2, u3, ws, Fn, Fl, Fa, Fz, f1, f2, f3, f4, f5, f6, f7, f8, f9, f10, f11, f12⟩ := k5
    subst f11 f12
    rw [List.append_nil] at f1
    subst f1 f2 e1 e3
    exact ⟨g, cap, op, nm, num, names, L, alts, v1, u1, u2, u3, xs, Fp, Fn, Fl, Fa, Fr, rfl, he, rfl, hn2, hn, by simpa using ho, k1, f3, f4, f5, f6, f7, k4, f8, f9, f10, k6⟩
theorem def_close {w : World} {g n cap : Nat} {dn : ByteArray} {dp : List ByteArray} {op : Int} {nm : ByteArray} {num : Int} {names : List ByteArray} {L alts : Ex} {r : List De} {v1 u1 u2 u3 : Value} {xs : List Value} {Fp Fn Fl Fa Fr : List Nat}
    (h : DefAt w g n cap dn dp op nm num names L alts r v1 u1 u2 u3 xs Fp Fn Fl Fa Fr) : RowO 37 8 w (.slice (some ⟨g, 0, none⟩) n cap) n (rowsOf g Fp Fn Fl Fa Fr) (fun xs F => DeO w ((dn, dp, .expr op nm num names L alts .nil) :: r) xs F) :=
  .inr ⟨h.pos, h.len, g, cap, _, _, rfl, h.own, ⟨v1, [.int .i64 op, .string nm, .int .i64 num, u1, u2, u3], xs, Fp, _, Fr, by simp, rfl, rfl, h.dn, ⟨rfl, h.wl, h.wa, trivial⟩, rfl, h.rp, ⟨u1, u2, u3, [], Fn, Fl, Fa, [], rfl, rfl, h.op, h.nm, h.num, h.wl, h.wa, h.rn, h.rl, h.ra, rfl, rfl⟩, h.rr⟩, rfl⟩
theorem DefAt.keep {w w' : World} {g n cap : Nat} {dn : ByteArray} {dp : List ByteArray} {op : Int} {nm : ByteArray} {num : Int} {names : List ByteArray} {L alts : Ex} {r : List De} {v1 u1 u2 u3 : Value} {xs : List Value} {Fp Fn Fl Fa Fr : List Nat}
    (h : DefAt w g n cap dn dp op nm num names L alts r v1 u1 u2 u3 xs Fp Fn Fl Fa Fr) (hk : KeepF w w' (rowsOf g Fp Fn Fl Fa Fr)) : DefAt w' g n cap dn dp op nm num names L alts r v1 u1 u2 u3 xs Fp Fn Fl Fa Fr :=
  ⟨h.len, h.pos, owns_keep h.own (hk.2 g (List.mem_cons_self ..)), h.dn, h.op, h.nm, h.num, h.wl, h.wa,
   h.rp.keep (hk.sub fun b hb => by simp [hb]) fun _ _ _ hp => hp,
   h.rn.keep (hk.sub fun b hb => by simp [hb]) fun _ _ _ hp => hp,
   h.rl.keep (hk.sub fun b hb => by simp [hb]) fun _ _ hs hp => ExO.keep hp ((hk.sub (G := Fl) fun b hb => by simp [hb]).sub hs),
   h.ra.keep (hk.sub fun b hb => by simp [hb]) fun _ _ hs hp => ExO.keep hp ((hk.sub (G := Fa) fun b hb => by simp [hb]).sub hs),
   DeO.keep h.rr (hk.sub fun b hb => by simp [hb])⟩
section
variable {w : World} {g n cap : Nat} {dn : ByteArray} {dp : List ByteArray} {op : Int} {nm : ByteArray} {num : Int} {names : List ByteArray} {L alts : Ex} {r : List De} {v1 u1 u2 u3 : Value} {xs : List Value} {Fp Fn Fl Fa Fr : List Nat}
/-- Its number is another one. -/
theorem DefAt.setNum (h : DefAt w g n cap dn dp op nm num names L alts r v1 u1 u2 u3 xs Fp Fn Fl Fa Fr) (hnd : (rowsOf g Fp Fn Fl Fa Fr).Nodup) {k : Int} (hk : wf64 k) : DefAt (w.setCell ⟨g, 4, none⟩ (.int .i64 k)) g n cap dn dp op nm k names L alts r v1 u1 u2 u3 xs Fp Fn Fl Fa Fr := by
  have hg := (List.nodup_cons.1 hnd).1
  have hs : KeepF w (w.setCell ⟨g, 4, none⟩ (.int .i64 k)) (Fp ++ (Fn ++ Fl ++ Fa ++ []) ++ Fr) := keep_set fun b hb e => hg (e ▸ hb)
  exact ⟨h.len, h.pos, by simpa using owns_set (j := 4) (.int .i64 k) h.own, h.dn, h.op, h.nm, hk, h.wl, h.wa,
    h.rp.keep (hs.sub fun b hb => by simp [hb]) fun _ _ _ hp => hp, h.rn.keep (hs.sub fun b hb => by simp [hb]) fun _ _ _ hp => hp,
    h.rl.keep (hs.sub fun b hb => by simp [hb]) fun _ _ hs2 hp => ExO.keep hp ((hs.sub (G := Fl) fun b hb => by simp [hb]).sub hs2),
    h.ra.keep (hs.sub fun b hb => by simp [hb]) fun _ _ hs2 hp => ExO.keep hp ((hs.sub (G := Fa) fun b hb => by simp [hb]).sub hs2),
    DeO.keep h.rr (hs.sub fun b hb => by simp [hb])⟩
/-- Its name is another one. -/
theorem DefAt.setName (h : DefAt w g n cap dn dp op nm num names L alts r v1 u1 u2 u3 xs Fp Fn Fl Fa Fr) (hnd : (rowsOf g Fp Fn Fl Fa Fr).Nodup) {s : ByteArray} (hk : s.size ≤ reach) : DefAt (w.setCell ⟨g, 0, none⟩ (.string s)) g n cap s dp op nm num names L alts r v1 u1 u2 u3 xs Fp Fn Fl Fa Fr := by
  have hg := (List.nodup_cons.1 hnd).1
  have hs : KeepF w (w.setCell ⟨g, 0, none⟩ (.string s)) (Fp ++ (Fn ++ Fl ++ Fa ++ []) ++ Fr) := keep_set fun b hb e => hg (e ▸ hb)
  exact ⟨h.len, h.pos, by simpa using owns_set (j := 0) (.string s) h.own, hk, h.op, h.nm, h.num, h.wl, h.wa,
    h.rp.keep (hs.sub fun b hb => by simp [hb]) fun _ _ _ hp => hp, h.rn.keep (hs.sub fun b hb => by simp [hb]) fun _ _ _ hp => hp,
    h.rl.keep (hs.sub fun b hb => by simp [hb]) fun _ _ hs2 hp => ExO.keep hp ((hs.sub (G := Fl) fun b hb => by simp [hb]).sub hs2),
    h.ra.keep (hs.sub fun b hb => by simp [hb]) fun _ _ hs2 hp => ExO.keep hp ((hs.sub (G := Fa) fun b hb => by simp [hb]).sub hs2),
    DeO.keep h.rr (hs.sub fun b hb => by simp [hb])⟩
/-- The first part of its body has another form. -/
theorem DefAt.part {op1 : Int} {nm1 : ByteArray} {num1 : Int} {names1 : List ByteArray} {L1 alts1 Lr : Ex} (h : DefAt w g n cap dn dp op nm num names (.expr op1 nm1 num1 names1 L1 alts1 Lr) alts r v1 u1 u2 u3 xs Fp Fn Fl Fa Fr) (hnd : (rowsOf g Fp Fn Fl Fa Fr).Nodup) :
    ∃ g2 cap2, u2 = .slice (some ⟨g2, 0, none⟩) (Ex.expr op1 nm1 num1 names1 L1 alts1 Lr).len cap2 ∧ g2 ≠ g ∧ g2 ∈ Fl ∧ w.cell? ⟨g2, 0, none⟩ = some (.int .i64 op1) ∧ w.frozen? ⟨g2, 0, none⟩ = false ∧
      ∀ k, wf64 k → DefAt (w.setCell ⟨g2, 0, none⟩ (.int .i64 k)) g n cap dn dp op nm num names (.expr k nm1 num1 names1 L1 alts1 Lr) alts r v1 u1 u2 u3 xs Fp Fn Fl Fa Fr := by
  have hrl := h.rl
  rcases hrl with ⟨h0, -⟩ | ⟨hp, hp2, g2, cap2, ys, Fl', rfl, ho, ⟨w1, w2, w3, ys', G1, G2, G3, G4, e1, e2, f1, f2, f3, f4, f5, f6, f7, f8, f9⟩, rfl⟩
  · simp [Ex.len] at h0
  · subst e1 e2
    have hg := (List.nodup_cons.1 hnd).1
    have hn2 := (List.nodup_cons.1 hnd).2
    have hne : g2 ≠ g := fun e => hg (by simp [e])
    have a1 := List.nodup_append.1 hn2
    have a2 := List.nodup_append.1 a1.1
    have a3 := List.nodup_append.1 (by simpa using a2.2.1 : (Fn ++ (g2 :: (G1 ++ G2 ++ G3 ++ G4) ++ Fa)).Nodup)
    have a4 := List.nodup_append.1 a3.2.1
    have a5 := List.nodup_cons.1 a4.1
    have kp : ∀ b ∈ Fp, b ≠ g2 := fun b hb e => a2.2.2 b hb g2 (by simp) e
    have kn : ∀ b ∈ Fn, b ≠ g2 := fun b hb e => a3.2.2 b hb g2 (by simp) e
    have kl : ∀ b ∈ G1 ++ G2 ++ G3 ++ G4, b ≠ g2 := fun b hb e => a5.1 (e ▸ hb)
    have ka : ∀ b ∈ Fa, b ≠ g2 := fun b hb e => a4.2.2 g2 (by simp) b hb e.symm
    have kr : ∀ b ∈ Fr, b ≠ g2 := fun b hb e => a1.2.2 g2 (by simp) b hb e.symm
    refine ⟨g2, cap2, rfl, hne, by simp, owns_cell ho rfl, owns_frozen ho 0, fun k hk => ?_⟩
    have kk : ∀ {F : List Nat}, (∀ b ∈ F, b ≠ g2) → KeepF w (w.setCell ⟨g2, 0, none⟩ (.int .i64 k)) F := fun hF => keep_set hF
    exact ⟨h.len, h.pos, owns_keep h.own (Below.heap_setCell _ _ _ _ (Ne.symm hne)), h.dn, h.op, h.nm, h.num, h.wl, h.wa, h.rp.keep (kk kp) fun _ _ _ hp => hp, h.rn.keep (kk kn) fun _ _ _ hp => hp,
      .inr ⟨hp, hp2, g2, cap2, _, _, rfl, owns_set (j := 0) (.int .i64 k) ho, ⟨w1, w2, w3, ys', G1, G2, G3, G4, by simp, rfl, hk, f2, f3, f4, f5,
        f6.keep (kk fun b hb => kl b (by simp [hb])) fun _ _ _ hp => hp, f7.keep (kk fun b hb => kl b (by simp [hb])) fun _ _ hs2 hp => ExO.keep hp ((kk (F := G2) fun b hb => kl b (by simp [hb])).sub hs2),
        f8.keep (kk fun b hb => kl b (by simp [hb])) fun _ _ hs2 hp => ExO.keep hp ((kk (F := G3) fun b hb => kl b (by simp [hb])).sub hs2), ExO.keep f9 (kk fun b hb => kl b (by simp [hb]))⟩, rfl⟩,
      h.ra.keep (kk ka) fun _ _ hs2 hp => ExO.keep hp ((kk ka).sub hs2), DeO.keep h.rr (kk kr)⟩
theorem DefAt.cells (h : DefAt w g n cap dn dp op nm num names L alts r v1 u1 u2 u3 xs Fp Fn Fl Fa Fr) : g < w.heap.size ∧ w.cell? ⟨g, 0, none⟩ = some (.string dn) ∧ w.cell? ⟨g, 4, none⟩ = some (.int .i64 num) ∧ w.cell? ⟨g, 6, none⟩ = some u2 ∧ ∀ j, w.frozen? ⟨g, j, none⟩ = false :=
  ⟨(owns_cells h.own).1, owns_cell h.own rfl, owns_cell h.own rfl, owns_cell h.own rfl, owns_frozen h.own⟩
end
theorem wrap_range (n : Int) : -9223372036854775808 ≤ IntKind.i64.wrap n ∧ IntKind.i64.wrap n ≤ 9223372036854775807 := by
  have e3 : IntKind.i64.wrap n = if n % 18446744073709551616 ≥ 9223372036854775808 then n % 18446744073709551616 - 18446744073709551616 else n % 18446744073709551616 := by
    unfold IntKind.wrap
    simp [IntKind.bits, IntKind.signed]
  rw [e3]
  split <;> omega
theorem wrap_next {n : Int} (h : wf64 n) : wf64 (IntKind.i64.wrap (n + 1)) ∧ n ≠ IntKind.i64.wrap (n + 1) := by
  refine ⟨wrap_range _, ?_⟩
  obtain ⟨h1, h2⟩ := h
  by_cases he : n = 9223372036854775807
  · subst he; decide
  · rw [wrap_i64 (by omega) (by omega)]; omega
theorem deEq_num {ds : List Da} {dn : ByteArray} {dp : List ByteArray} {op : Int} {nm : ByteArray} {num num' : Int} {names : List ByteArray} {L alts : Ex} {r : List De} (h : num ≠ num') : progEq ds ((dn, dp, .expr op nm num names L alts .nil) :: r) ds ((dn, dp, .expr op nm num' names L alts .nil) :: r) = false := by
  have : (num == num') = false := by simpa using h
  simp [progEq, deEq, Ex.eq, this]
theorem deEq_name {ds : List Da} {dn dn' : ByteArray} {dp : List ByteArray} {e : Ex} {r : List De} (h : dn.toList ≠ dn'.toList) : progEq ds ((dn, dp, e) :: r) ds ((dn', dp, e) :: r) = false := by
  have : (dn.toList == dn'.toList) = false := by simpa using h
  simp [progEq, deEq, this]
theorem deEq_less {ds : List Da} {d : De} {r : List De} : progEq ds (d :: r) ds r = false ∧ progEq ds r ds (d :: r) = false := by
  have h1 : deEq (d :: r) r = false := by
    cases h : deEq (d :: r) r
    · rfl
    · have := deEq_len h; simp at this
  have h2 : deEq r (d :: r) = false := by
    cases h : deEq r (d :: r)
    · rfl
    · have := deEq_len h; simp at this
  exact ⟨by simp [progEq, h1], by simp [progEq, h2]⟩
theorem deEq_part {ds : List Da} {dn : ByteArray} {dp : List ByteArray} {op : Int} {nm : ByteArray} {num : Int} {names : List ByteArray} {alts : Ex} {r : List De} {k k' : Int} {nm1 : ByteArray} {num1 : Int} {names1 : List ByteArray} {L1 alts1 Lr : Ex} (h : k ≠ k') :
    progEq ds ((dn, dp, .expr op nm num names (.expr k nm1 num1 names1 L1 alts1 Lr) alts .nil) :: r) ds ((dn, dp, .expr op nm num names (.expr k' nm1 num1 names1 L1 alts1 Lr) alts .nil) :: r) = false := by
  have : (k == k') = false := by simpa using h
  simp [progEq, deEq, Ex.eq, this]
end Go.Proofs.YtledjcplbldokaaGreatDoor
