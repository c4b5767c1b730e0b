/- gristmillref's Texts and Has over lists of texts that lie somewhere; append of such a list. Conditions: lengths. -/
import Derived.Test.YtlniackafagajaaDoorFr2
import Derived.Laws.MakeOwn
import Derived.Laws.OwnMore
namespace Go.Proofs.YtlniackafagajaaDoor
open Go.RowKit Go.Maps

theorem grown_below {w w' : World} {B : Nat} {v : Value} (hg : w.grownBy w' v.ownBlock) (hB : B ≤ w.heap.size) (hv : ∀ k, v.ownBlock = some k → B ≤ k) : Below B w w' := Below.grown (Below.refl _ _) hg hB hv
theorem row_at {w : World} {base : Nat} {e : TypeId} {ao : Option Addr} {n cap : Nat} {xs : List Value} (h : w.ownsRow base e 1 (.slice ao n cap) n xs) (i : Nat) (u : Value) (hi : i < n) (hu : xs[i]? = some u) :
    ∃ g, ao = some ⟨g, 0, none⟩ ∧ base ≤ g ∧ g < w.heap.size ∧ w.cell? ⟨g, i, none⟩ = some u := by
  rcases h.2 with ⟨_, rfl⟩ | ⟨g, cap', cur, hv, hg, hgt, hn, _, _, htk⟩
  · omega
  · injection hv with e1 e2 e3
    subst e1
    refine ⟨g, rfl, hg, (Array.getElem?_eq_some_iff.1 hgt).1, ?_⟩
    have : xs[i]? = cur.toList[i]? := by
      rw [← htk, List.getElem?_take_of_lt (by omega)]
    rw [cell_of_row w g i cur e (0, 0) hgt]
    rw [hu] at this
    simpa using this.symm
theorem nm_of_row {w : World} {base : Nat} {ao : Option Addr} {n cap : Nat} {l : List ByteArray} (h : w.ownsRow base 9 1 (.slice ao n cap) n (l.map .string)) (hs : ∀ s ∈ l, s.size ≤ maxLen) : NmAt w w.heap.size ao l := fun i hi => by
  have hn : n = l.length := by have := h.1; simpa using this.symm
  obtain ⟨g, h1, h2, h3, h4⟩ := row_at h i (.string l[i]) (by omega) (by simp [hi])
  exact ⟨hs _ (List.getElem_mem hi), g, 0, h1, h3, by simpa using h4⟩
theorem NmAt.below {w w' : World} {B : Nat} {ao : Option Addr} {l : List ByteArray} (h : NmAt w B ao l) (hb : Below B w w') : NmAt w' B ao l := fun i hi => by
  obtain ⟨h1, b, off, h2, h3, h4⟩ := h i hi
  exact ⟨h1, b, off, h2, h3, (hb.cell (p := ⟨b, off + i, none⟩) h3).trans h4⟩
theorem NmAt.mono {w : World} {B B' : Nat} {ao : Option Addr} {l : List ByteArray} (h : NmAt w B ao l) (hB : B ≤ B') : NmAt w B' ao l := fun i hi => by
  obtain ⟨h1, b, off, h2, h3, h4⟩ := h i hi
  exact ⟨h1, b, off, h2, Nat.lt_of_lt_of_le h3 hB, h4⟩

/-! ### append of a list -/
theorem wpList_append_nm {P : Program} (w : World) {ops : Array Oper} {rest : List Oper} {o : Oper} {a : Act} {Q : Exit → Act → World → Prop} (hgd : o.guard = none) (s x : Operand) (t : TypeId)
    (ho : o.op = .call { callee := .builtin .append, args := #[s, x], argTypes := #[t, t] })
    (base : Nat) (e : TypeId) (i : TypeInfo) (z : Value) (bytes : Nat) (ht : P.underlying t = some (.slice e)) (hi : P.info? e = some i) (hz : i.zero = some z)
    (hsize : i.size = 1) (hby : i.bytes = bytes) (hzs : z.cells.size = 1)
    (v : Value) (n : Nat) (xs : List Value) (hs : a.eval s = v) (hown : w.ownsRow base e 1 v n xs)
    (B : Nat) (ao : Option Addr) (l : List ByteArray) (m c : Nat) (hx : a.eval x = .slice ao m c) (hm : m = l.length) (hnm : NmAt w B ao l) (hc : ao = none → m = 0 ∧ c = 0)
    (h63 : n + m ≤ maxLen) (hbytes : (n + m) * bytes ≤ 140737488355328) (hbase : base ≤ w.heap.size)
    (h : ∀ v' w', w'.ownsRow base e 1 v' (n + m) (xs ++ l.map .string) → w.grownBy w' v.ownBlock → wpList P ops Q rest (a.put o.dst v') w') : wpList P ops Q (o :: rest) a w := by
  cases ao with
  | none =>
    obtain ⟨rfl, rfl⟩ := hc rfl
    have hl : l = [] := List.length_eq_zero_iff.1 hm.symm
    subst hl
    refine wpList_plain hgd fun K hK => ?_
    have hr := run_append_owned_none (P := P) w base t o.type e i 1 ht hi v n xs hown
    unfold Oper.wp execOp
    simp only [ho, resolve, invoke, builtin, Sem.run_bind, Sem.run_pure, Result.andThen_ok, List.map_toArray, List.map_cons, List.map_nil, hs, hx, hr]
    exact hK _ _ (h v w (by simpa using hown) (World.grownBy.refl _ _))
  | some ad =>
    refine wpList_append_own w hgd s x t ho base e i z 1 bytes ht hi hz hsize hby hzs (by decide) v n xs hs hown ad m c (l.map .string) hx (by rw [List.length_map, hm]; omega) (fun j u hu => ?_) (fun u hu => ?_) h63 hbytes hbase (fun v' w' h1 h2 _ => h v' w' h1 h2)
    · have hj : j < l.length := by
        rcases Nat.lt_or_ge j l.length with h | h
        · exact h
        · rw [List.getElem?_eq_none (by simpa using h)] at hu; cases hu
      obtain ⟨_, b, off, e1, _, e3⟩ := hnm j hj
      injection e1 with e1
      subst e1
      have e2 : u = .string l[j] := by
        rw [List.getElem?_map, List.getElem?_eq_getElem hj] at hu
        exact (Option.some.inj hu).symm
      rw [e2]
      have : (⟨b, off, none⟩ : Addr).add j = ⟨b, off + j, none⟩ := by unfold Addr.add; split <;> simp_all
      rw [this]
      exact e3
    · obtain ⟨q, _, rfl⟩ := List.mem_map.1 hu
      rfl

/-! ### Has -/
set_option maxRecDepth 100000 in
theorem place_none (ao : Option Addr) (cap : Nat) (s : ByteArray) (w : World) :
    Calls Tryd.prog 19 #[.slice ao 0 cap, .string s] w fun e w' => e = .returned (.int .i64 (-1)) ∧ w = w' := by
  go_enter Tryd.func19, Tryd.ntmps19
  go_wp2_with fail
  go_loop [5] (fun vi => vi = .int .i64 0) (fun _ => 0)
  case atStart => rfl
  case round =>
    obtain rfl := hrel
    go_wp2_with fail
    go_ret
    exact ⟨rfl, rfl⟩
set_option maxRecDepth 100000 in
theorem has_none (ao : Option Addr) (cap : Nat) (s : ByteArray) (w : World) :
    Calls Tryd.prog 9 #[.slice ao 0 cap, .string s] w fun e w' => e = .returned (.bool false) ∧ w = w' := by
  have H := Lib.hid (place_none ao cap s w)
  go_enter Tryd.func9, Tryd.ntmps9
  go_wp2_with fail
  refine H.out.mono ?_
  rintro e w' ⟨rfl, rfl⟩
  go_wp2_with fail
  go_ret
  exact ⟨rfl, rfl⟩
theorem has_nm (l : List ByteArray) (B : Nat) (ao : Option Addr) (n cap : Nat) (hn : n = l.length) (s : ByteArray) (w : World) (hl : n ≤ 1000000000) (h : NmAt w B ao l) :
    Calls Tryd.prog 9 #[.slice ao n cap, .string s] w fun e w' => e = .returned (.bool (hasB l s)) ∧ w = w' := by
  subst hn
  rcases Nat.eq_zero_or_pos l.length with h0 | h0
  · have : l = [] := List.length_eq_zero_iff.1 h0
    subst this
    exact has_none ao cap s w
  · obtain ⟨_, b, off, rfl, _, _⟩ := h 0 h0
    exact has_any l cap b off s w hl fun k hk => by
      obtain ⟨_, b', off', e1, _, e3⟩ := h k hk
      injection e1 with e1
      injection e1 with e1 e2
      subst e1 e2
      exact e3

/-! ### Texts -/
theorem make_room (n : Nat) (hn : n ≤ 1000000) (w : World) : (Instr.makeSlice 22 (.int .i64 0) (.int .i64 (n : Int))).run Tryd.prog w = .ok (.slice (some ⟨w.heap.size, 0, none⟩) 0 n) (w.alloc (.cells (madeCells #[.string ⟨#[]⟩] n) 9)) := by
  obtain ⟨i0, hi, hz0, hz1, hz2⟩ := info_parts infoStr
  have hr := run_make (P := Tryd.prog) w 22 9 i0 (.string ⟨#[]⟩) Tryd.underlying22 hi hz0 .i64 .i64 0 (n : Int) (by omega) (by omega) (by rw [hz2]; omega) (by omega)
  rw [hz1] at hr
  simpa [Value.cells] using hr

set_option maxRecDepth 100000 in
set_option maxHeartbeats 1000000 in
theorem texts_any (l : List ByteArray) (ao : Option Addr) (n cap : Nat) (hn : n = l.length) (w : World) (hlen : n ≤ 1000000) (hl : NmAt w w.heap.size ao l) :
    Calls Tryd.prog 8 #[.slice ao n cap] w fun e w' => ∃ a' c', e = .returned (.slice a' n c') ∧ w'.ownsRow w.heap.size 9 1 (.slice a' n c') n (l.map .string) ∧ Below w.heap.size w w' := by
  have HN := Lib.hid hn
  have HL := Lib.hid hl
  have hmk := make_room n hlen
  obtain ⟨i0, hi, hz0, hz1, hz2⟩ := info_parts infoStr
  have ho := World.ownsRow_made (e := 9) (size := 1) w (madeCells #[.string ⟨#[]⟩] n) n (Nat.le_refl _) (by unfold maxLen; omega) (by rw [size_madeCells]; omega)
  have hbs := (Below.refl w.heap.size w).alloc (Nat.le_refl _) (.cells (madeCells #[.string ⟨#[]⟩] n) 9)
  have HO := Lib.hid ho
  have HB := Lib.hid hbs
  clear hl hn ho hbs
  go_enter Tryd.func8, Tryd.ntmps8
  go_wp2_with fail
  go_loopw [3, 4] (fun vo vi wr => ∃ (k : Nat) (a : Option Addr) (c : Nat), k ≤ n ∧ vo = .slice a k c ∧ vi = .int .i64 k ∧ Hid (wr.ownsRow w.heap.size 9 1 (.slice a k c) k ((l.take k).map .string) ∧ Below w.heap.size w wr)) (fun _ vi _ => n + 1 - (intOf vi).toNat)
  case atStart => exact ⟨0, _, _, by omega, rfl, rfl, Lib.hid ⟨HO.out, HB.out⟩⟩
  case round =>
    obtain ⟨k, a, c, hk, rfl, rfl, hR⟩ := hrel
    by_cases hkn : k < n
    · have hkl : k < l.length := by rw [← HN.out]; exact hkn
      obtain ⟨sz, b, off, rfl, hb, cs⟩ := HL.out k hkl
      have cs1 := (hR.out.2.cell (p := ⟨b, off + k, none⟩) hb).trans cs
      obtain ⟨s, hs⟩ : ∃ s, s = l[k] := ⟨_, rfl⟩
      rw [← hs] at sz cs1
      have HS := Lib.hid hs
      clear hs cs
      have hkz : (k : Int) < (n : Int) := by omega
      have hk0 : (0 : Int) ≤ (k : Int) := by omega
      have oA := hR.out.1.alloc (.cells #[.string s] 9)
      have D2 : ∀ u ∈ ([.string s] : List Value), u.oneCell' = true := by intro u hu; simp at hu; subst hu; rfl
      have D3 : k + 1 ≤ maxLen := by unfold maxLen; omega
      have D4 : (k + 1) * 16 ≤ 140737488355328 := by omega
      have D5 : w.heap.size ≤ (wr.alloc (.cells #[.string s] 9)).heap.size := by have := hR.out.2.size; simp; omega
      go_wp2_with (first
        | (at_builtin; refine wpList_append_own _ rfl _ _ 22 rfl w.heap.size 9 i0 (.string ⟨#[]⟩) 1 16 Tryd.underlying22 hi hz0 hz1 hz2 rfl (by decide) _ _ _ rfl oA ⟨wr.heap.size, 0, none⟩ 1 1 [.string s] rfl rfl (cell_one_new _ _ _) D2 D3 D4 D5 ?_
           intro v4 w4 oA4 gr4 _
           have hrow4 : ∀ q, some q = (Value.slice a k c).ownBlock → w.heap.size ≤ q := fun q hq => (oA.lt q hq.symm).1
           have HB4 := Lib.hid ((hR.out.2.alloc hR.out.2.size (.cells #[.string s] 9)).grown gr4 D5 (fun q hq => hrow4 q hq.symm))
           have OA4 := Lib.hid oA4
           obtain ⟨aA4, cA4, rfl⟩ := slice_of_owns oA4
           clear oA4 gr4 hrow4))
      go_roundw
      case rel =>
        refine ⟨k + 1, aA4, cA4, by omega, rfl, by go_num, Lib.hid ⟨?_, HB4.out⟩⟩
        rw [List.take_succ_eq_append_getElem hkl, List.map_append]
        have := OA4.out
        rw [HS.out] at this
        exact this
      case measure => simp [intOf]; omega
    · obtain rfl : k = n := by omega
      go_wp2_with fail
      go_ret
      have h1 := hR.out.1
      rw [List.take_of_length_le (by rw [← HN.out]; exact Nat.le_refl _)] at h1
      exact ⟨a, c, rfl, h1, hR.out.2⟩
end Go.Proofs.YtlniackafagajaaDoor
