/- Tags: gristmillref.Tags, a list of them appended: contracts. Conditions: how many; how they lie in memory. -/
import Derived.Test.YtcplajplbocieaaDoorTg8
import Derived.Laws.OwnMore
import Derived.Deep.LoopGhost
namespace Go.Proofs.YtcplajplbocieaaDoor
open Go.RowKit Go.Sort Go.Lib

def flatL (l : List Tg) : List Value := l.flatMap encT
theorem flatL_append (l m : List Tg) : flatL (l ++ m) = flatL l ++ flatL m := List.flatMap_append
theorem flatL_len (l : List Tg) : (flatL l).length = l.length * 3 := by
  induction l with
  | nil => rfl
  | cons x l ih =>
    show (encT x ++ flatL l).length = _
    rw [List.length_append, ih, len_encT, List.length_cons]; omega
theorem flatL_get : ∀ (l : List Tg) (j i : Nat), j < l.length → i < 3 → (flatL l)[j * 3 + i]? = (encT l[j]!)[i]?
  | [], j, i, h, _ => absurd h (Nat.not_lt_zero _)
  | x :: l, 0, i, _, hi => by
    show (encT x ++ flatL l)[0 * 3 + i]? = _
    rw [Nat.zero_mul, Nat.zero_add, List.getElem?_append_left (by rw [len_encT]; exact hi)]
    rfl
  | x :: l, j + 1, i, h, hi => by
    show (encT x ++ flatL l)[(j + 1) * 3 + i]? = _
    rw [List.getElem?_append_right (by rw [len_encT]; omega), len_encT, show (j + 1) * 3 + i - 3 = j * 3 + i by omega, flatL_get l j i (by simpa using h) hi]
    rfl
theorem flatL_one (l : List Tg) : ∀ u ∈ flatL l, u.oneCell' = true := by
  intro u hu
  obtain ⟨x, _, hx⟩ := List.mem_flatMap.1 hu
  exact one_encT x u hx
theorem addr_add (b o j : Nat) : (⟨b, o, none⟩ : Addr).add j = ⟨b, o + j, none⟩ := by unfold Addr.add; split <;> simp_all
theorem flatL_at {w : World} {b o : Nat} {l : List Tg} (h3 : ∀ j, j < l.length → ∀ i v, (encT l[j]!)[i]? = some v → w.cell? ⟨b, o + j * 3 + i, none⟩ = some v) (j : Nat) (u : Value) (hu : (flatL l)[j]? = some u) : w.cell? ((⟨b, o, none⟩ : Addr).add j) = some u := by
  rw [addr_add]
  have hj : j < l.length * 3 := by
    rcases Nat.lt_or_ge j (l.length * 3) with h | h
    · exact h
    · rw [List.getElem?_eq_none (by rw [flatL_len]; exact h)] at hu; cases hu
  have e : j / 3 * 3 + j % 3 = j := by omega
  rw [← e, flatL_get l (j / 3) (j % 3) (by omega) (by omega)] at hu
  rw [show o + j = o + j / 3 * 3 + j % 3 by omega]
  exact h3 (j / 3) (by omega) (j % 3) u hu
/-- A row of the call's own, as tags. -/
theorem own_tg {w : World} {base : Nat} {v : Value} {l : List Tg} (h : w.ownsRow base 23 3 v l.length (flatL l)) : ∃ ao cap, v = .slice ao l.length cap ∧ TgAt w ao l ∧ (ao = none → cap = 0) := by
  rcases h.2 with ⟨rfl, hz⟩ | ⟨g, cap, cur, rfl, _, hg, _, _, _, _⟩
  · obtain rfl := List.length_eq_zero_iff.1 hz
    exact ⟨none, 0, rfl, Or.inl rfl, fun _ => rfl⟩
  · refine ⟨_, cap, rfl, Or.inr ⟨g, 0, rfl, (Array.getElem?_eq_some_iff.1 hg).1, fun j hj i u hu => ?_⟩, fun h => by cases h⟩
    have hi : i < 3 := by
      rcases Nat.lt_or_ge i 3 with h | h
      · exact h
      · rw [List.getElem?_eq_none (by rw [len_encT]; exact h)] at hu; cases hu
    have := World.ownsRow.cells h (g := g) rfl (j * 3 + i) u (by rw [flatL_get l j i hj hi]; exact hu)
    rw [addr_add] at this
    rw [Nat.zero_add] at this ⊢
    exact this
/-- append(x, l...), l a list of tags that may be nil. -/
theorem wpList_append_tg {P : Program} (w : World) {ops : Array Oper} {rest : List Oper} {o : Oper} {a : Act} {Q : Exit → Act → World → Prop} (hgd : o.guard = none) (s x : Operand) (t : TypeId)
    (ho : o.op = .call { callee := .builtin .append, args := #[s, x], argTypes := #[t, t] })
    (base : Nat) (e : TypeId) (i : TypeInfo) (z : Value) (bytes : Nat) (ht : P.underlying t = some (.slice e)) (hi : P.info? e = some i) (hz : i.zero = some z)
    (hsize : i.size = 3) (hby : i.bytes = bytes) (hzs : z.cells.size = 3)
    (v : Value) (n : Nat) (xs : List Value) (hs : a.eval s = v) (hown : w.ownsRow base e 3 v n xs)
    (ao : Option Addr) (l : List Tg) (m c : Nat) (hx : a.eval x = .slice ao m c) (hm : m = l.length) (htg : TgAt w ao l) (hc : ao = none → c = 0)
    (h63 : n + m ≤ maxLen) (hbytes : (n + m) * bytes ≤ 140737488355328) (hbase : base ≤ w.heap.size)
    (h : ∀ v' w', w'.ownsRow base e 3 v' (n + m) (xs ++ flatL l) → w.grownBy w' v.ownBlock → wpList P ops Q rest (a.put o.dst v') w') : wpList P ops Q (o :: rest) a w := by
  cases ao with
  | none =>
    obtain rfl := hc rfl
    have hl : l = [] := htg.resolve_right (fun ⟨b, o, e, _⟩ => by cases e)
    subst hl
    obtain rfl : m = 0 := hm
    refine wpList_plain hgd fun K hK => ?_
    have hr := run_append_owned_none (P := P) w base t o.type e i 3 ht hi v n xs hown
    unfold Oper.wp execOp
    simp only [ho, resolve, invoke, builtin, Sem.run_bind, Sem.run_pure, Result.andThen_ok, List.map_toArray, List.map_cons, List.map_nil, hs, hx, hr]
    exact hK _ _ (h v w (by simpa [flatL] using hown) (World.grownBy.refl _ _))
  | some ad =>
    refine wpList_append_own w hgd s x t ho base e i z 3 bytes ht hi hz hsize hby hzs (by decide) v n xs hs hown ad m c (flatL l) hx (by rw [flatL_len, hm]) (fun j u hu => ?_) (flatL_one l) h63 hbytes hbase (fun v' w' h1 h2 _ => h v' w' h1 h2)
    rcases htg with rfl | ⟨b, o', e1, _, h3⟩
    · simp [flatL] at hu
    · injection e1 with e1
      subst e1
      exact flatL_at h3 j u hu
theorem cell_three_new (w : World) (x : Tg) (t : TypeId) : ∀ j u, (encT x)[j]? = some u → (w.alloc (.cells (encT x).toArray t)).cell? ((⟨w.heap.size, 0, none⟩ : Addr).add j) = some u := by
  intro j u hj
  rw [addr_add, Nat.zero_add, cell_of_row _ w.heap.size j (encT x).toArray t (0, 0) (heap_alloc_new w _)]
  simpa using hj
/-- A copy, in a row of the call's own. -/
def TagsP (w : World) (l : List Tg) (e : Ending) (w' : World) : Prop := ∃ v, e = .returned v ∧ w'.ownsRow w.heap.size 23 3 v l.length (flatL l) ∧ Below w.heap.size w w'
theorem tagsP_mk {w w' : World} {l : List Tg} {v : Value} (h : w'.ownsRow w.heap.size 23 3 v l.length (flatL l)) (hb : Below w.heap.size w w') : TagsP w l (.returned v) w' := ⟨v, rfl, h, hb⟩
theorem slice_of_owns {w : World} {base : Nat} {e : TypeId} {sz n : Nat} {v : Value} {xs : List Value} (h : w.ownsRow base e sz v n xs) : ∃ a c, v = .slice a n c := by
  rcases h.2 with ⟨rfl, rfl⟩ | ⟨g, cap, cur, rfl, _⟩
  · exact ⟨_, _, rfl⟩
  · exact ⟨_, _, rfl⟩
theorem make_room (n : Nat) (hn : n ≤ 1000000) (w : World) : (Instr.makeSlice 24 (.int .i64 0) (.int .i64 (n : Int))).run Tryd.prog w = .ok (.slice (some ⟨w.heap.size, 0, none⟩) 0 n) (w.alloc (.cells (madeCells zeroT (n * 3)) 23)) := by
  obtain ⟨i0, hi, hz0, hz1, hz2⟩ := info_parts infoTag
  have hr := run_make (P := Tryd.prog) w 24 23 i0 (.agg zeroT) Tryd.underlying24 hi hz0 .i64 .i64 0 (n : Int) (by omega) (by omega) (by rw [hz2]; omega) (by omega)
  rw [hz1] at hr
  simpa [Value.cells] using hr
set_option maxRecDepth 100000 in
set_option maxHeartbeats 4000000 in
theorem tags_core (l : List Tg) (ao : Option Addr) (n cap : Nat) (hn : n = l.length) (hlen : n ≤ 100000) (w : World) (h : TgAt w ao l) : Calls Tryd.prog 24 #[.slice ao n cap] w fun e w' => ∃ v, e = .returned v ∧ w'.ownsRow w.heap.size 23 3 v n (flatL l) ∧ Below w.heap.size w w' := by
  have HN := Lib.hid hn
  have HL := Lib.hid h
  have hmk := make_room n (by omega)
  obtain ⟨i0, hi, hz0, hz1, hz2⟩ := info_parts infoTag
  have ho := World.ownsRow_made (e := 23) (size := 3) w (madeCells zeroT (n * 3)) n (Nat.le_refl _) (by unfold maxLen; omega) (by rw [size_madeCells])
  have hbs := (Below.refl w.heap.size w).alloc (Nat.le_refl _) (.cells (madeCells zeroT (n * 3)) 23)
  have HO := Lib.hid ho
  have HB := Lib.hid hbs
  clear h hn ho hbs
  go_enter Tryd.func24, Tryd.ntmps24
  go_wp2_with fail
  go_loopw [3, 4] (fun vo vi wr => ∃ (k : Nat) (a : Option Addr) (c : Nat), k ≤ n ∧ vo = .slice a k c ∧ vi = .int .i64 k ∧ Hid (wr.ownsRow w.heap.size 23 3 (.slice a k c) k (flatL (l.take k)) ∧ Below w.heap.size w wr)) (fun _ vi _ => n + 1 - (intOf vi).toNat)
  case atStart => exact ⟨0, _, _, by omega, rfl, rfl, Lib.hid ⟨HO.out, HB.out⟩⟩
  case round =>
    obtain ⟨k, a, c, hk, rfl, rfl, hR⟩ := hrel
    by_cases hkn : k < n
    · have hkl : k < l.length := by rw [← HN.out]; exact hkn
      rcases HL.out with hnil | ⟨b, o, rfl, hb, hcell⟩
      · rw [hnil] at hkl; exact absurd hkl (Nat.not_lt_zero _)
      obtain ⟨x, hx⟩ : ∃ x, l[k]! = x := ⟨_, rfl⟩
      have hce : ∀ j v, (encT x)[j]? = some v → wr.cell? ⟨b, o + k * 3 + j, none⟩ = some v := fun j v hv => by
        rw [hR.out.2.cell (p := ⟨b, _, none⟩) hb]
        exact hcell k hkl j v (by rw [hx]; exact hv)
      have HS := Lib.hid hx
      clear hcell hx
      have hkz : (k : Int) < (n : Int) := by omega
      have hk0 : (0 : Int) ≤ (k : Int) := by omega
      have oA := hR.out.1.alloc (.cells (encT x).toArray 23)
      have hnw := cell_three_new wr x 23
      have D2 := one_encT x
      have D3 : k + 1 ≤ maxLen := by unfold maxLen; omega
      have D4 : (k + 1) * 32 ≤ 140737488355328 := by omega
      have D5 : w.heap.size ≤ (wr.alloc (.cells (encT x).toArray 23)).heap.size := by have := hR.out.2.size; simp; omega
      have HBA := Lib.hid (hR.out.2.alloc hR.out.2.size (.cells (encT x).toArray 23))
      obtain ⟨xk, xs, xn⟩ := x
      have e0 := hce 0 _ rfl
      have e1 := hce 1 _ rfl
      have e2 := hce 2 _ rfl
      simp only [encT, Nat.add_zero] at e0 e1 e2 oA hnw D2 D5 HBA
      clear hce
      go_wp2_with (first
        | (at_builtin; refine wpList_append_own _ rfl _ _ 24 rfl w.heap.size 23 i0 (.agg zeroT) 3 32 Tryd.underlying24 hi hz0 hz1 hz2 rfl (by decide) _ _ _ rfl oA ⟨wr.heap.size, 0, none⟩ 1 1 [.int .i64 xk, .string xs, .int .i64 xn] rfl rfl hnw D2 D3 D4 D5 ?_
           intro v4 w4 oA4 gr4 _
           have hrow4 : ∀ q, some q = (Value.slice a k c).ownBlock → w.heap.size ≤ q := fun q hq => (oA.lt q hq.symm).1
           have HB4 := Lib.hid (HBA.out.grown gr4 D5 (fun q hq => hrow4 q hq.symm))
           have OA4 := Lib.hid oA4
           obtain ⟨aA4, cA4, rfl⟩ := slice_of_owns oA4
           clear oA4 gr4 hrow4))
      go_roundw
      case rel =>
        refine ⟨k + 1, aA4, cA4, by omega, rfl, by go_num, Lib.hid ⟨?_, HB4.out⟩⟩
        rw [List.take_succ_eq_append_getElem hkl, flatL_append]
        have := OA4.out
        have e : flatL [l[k]] = [.int .i64 xk, .string xs, .int .i64 xn] := by
          have h1 := HS.out
          rw [getElem!_pos l k hkl] at h1
          rw [h1]; rfl
        rw [e]
        exact this
      case measure => simp [intOf]; omega
    · obtain rfl : k = n := by omega
      go_wp2_with fail
      go_ret
      have h1 := hR.out.1
      rw [List.take_of_length_le (by rw [← HN.out]; exact Nat.le_refl _)] at h1
      exact ⟨_, rfl, h1, hR.out.2⟩
theorem tags_any (ao : Option Addr) (cap : Nat) (l : List Tg) (hl : l.length ≤ 100000) (w : World) (h : TgAt w ao l) : Calls Tryd.prog 24 #[.slice ao l.length cap] w (TagsP w l) := tags_core l ao l.length cap rfl hl w h
end Go.Proofs.YtcplajplbocieaaDoor
