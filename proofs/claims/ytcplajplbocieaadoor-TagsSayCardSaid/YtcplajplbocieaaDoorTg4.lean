/- Tags: Less, Has, Waits, Bare: contracts. Conditions: as each says. -/
import Derived.Test.YtcplajplbocieaaDoorTg2
import Derived.Test.YtcplajplbocieaaDoorTg3
import Derived.Below
import Derived.Laws.StructEq
namespace Go.Proofs.YtcplajplbocieaaDoor
open Go.RowKit Go.Sort Go.Lib

theorem grow_below (w : World) (q : Nat) (os : Array Obj) : Below w.heap.size w (grow (w.drewN q) os) :=
  ⟨rfl, rfl, rfl, by rw [size_grow]; exact Nat.le_add_right _ _, fun k hk => by show (w.heap ++ os)[k]? = _; rw [Array.getElem?_append_left hk]⟩
set_option maxRecDepth 100000 in
theorem less_any (x y : Tg) (w : World) : Calls Tryd.prog 10 #[.agg (encT x).toArray, .agg (encT y).toArray] w (Grew (.bool (ltT x y)) w) := by
  have HC := Lib.hid (compare_any x y)
  have e : ltT x y = decide (cmpT x y < 0) := rfl
  rw [e]
  generalize cmpT x y = r at *
  obtain ⟨xk, xs, xn⟩ := x
  obtain ⟨yk, ys, yn⟩ := y
  simp only [encT] at *
  have HB : Hid (∀ q os, Below w.heap.size w (grow ((((w.alloc (.cells #[.int .i64 xk, .string xs, .int .i64 xn] 23)).alloc (.cells #[.int .i64 yk, .string ys, .int .i64 yn] 23))).drewN q) os)) := Lib.hid fun q os => by
    have h := ((Below.refl _ w).alloc (Nat.le_refl _) (.cells #[.int .i64 xk, .string xs, .int .i64 xn] 23)).alloc (by simp) (.cells #[.int .i64 yk, .string ys, .int .i64 yn] 23)
    exact h.trans ((grow_below _ q os).mono h.size)
  go_enter Tryd.func10, Tryd.ntmps10
  go_wp2_with (go_at_call 27; refine (HC.out _).mono ?_; rintro e w' ⟨rfl, q, os, rfl⟩)
  go_ret
  exact ⟨rfl, HB.out q os⟩
theorem eqAt : EqlAt Tryd.prog 23 (fun x => .agg (encT x).toArray) eqT := by
  refine ⟨fun x y w => ?_, GuardAt.agg _ (by kernel_rfl)⟩
  have u3 := Tryd.underlying3
  have a3 := Tryd.isAgg3
  have z3 := Tryd.sizeOf3
  have u9 := Tryd.underlying9
  have a9 := Tryd.isAgg9
  have z9 := Tryd.sizeOf9
  have hS : Tryd.prog.underlying 23 = some (.struct (Tryd.prog.fieldsOf 23)) := by kernel_rfl
  have hp : Tryd.prog.stoodInHeld 23 = false := by kernel_rfl
  obtain ⟨xk, xs, xn⟩ := x
  obtain ⟨yk, ys, yn⟩ := y
  simp only [encT, eqT]
  rw [run_eql_struct, show (10000 : Nat) = 9999 + 1 from rfl, run_equalIn_agg w 9999 23 _ _ hS hp]
  simp only [Program.fieldsOf, Tryd.underlying23]
  go_simp
  by_cases h1 : xk = yk <;> by_cases h2 : xs.toList = ys.toList <;> by_cases h3 : xn = yn <;> simp [h1, h2, h3]
theorem neqAt (x y : Tg) (w : World) : Sem.run Tryd.prog (binOp .neq 23 (.agg (encT x).toArray) (.agg (encT y).toArray)) w = .ok (.bool (!eqT x y)) w := by
  have u3 := Tryd.underlying3
  have a3 := Tryd.isAgg3
  have z3 := Tryd.sizeOf3
  have u9 := Tryd.underlying9
  have a9 := Tryd.isAgg9
  have z9 := Tryd.sizeOf9
  have hS : Tryd.prog.underlying 23 = some (.struct (Tryd.prog.fieldsOf 23)) := by kernel_rfl
  have hp : Tryd.prog.stoodInHeld 23 = false := by kernel_rfl
  obtain ⟨xk, xs, xn⟩ := x
  obtain ⟨yk, ys, yn⟩ := y
  simp only [encT, eqT]
  rw [run_neq_struct, show (10000 : Nat) = 9999 + 1 from rfl, run_equalIn_agg w 9999 23 _ _ hS hp]
  simp only [Program.fieldsOf, Tryd.underlying23]
  go_simp
  by_cases h1 : xk = yk <;> by_cases h2 : xs.toList = ys.toList <;> by_cases h3 : xn = yn <;> simp [h1, h2, h3]
/-- Tags in memory: a slice that came in, or that the call owns. -/
def TgAt (w : World) (ao : Option Addr) (l : List Tg) : Prop := l = [] ∨ ∃ b o, ao = some ⟨b, o, none⟩ ∧ b < w.heap.size ∧ ∀ j, j < l.length → ∀ i v, (encT l[j]!)[i]? = some v → w.cell? ⟨b, o + j * 3 + i, none⟩ = some v
theorem TgAt.below {w w' : World} {ao : Option Addr} {l : List Tg} (h : TgAt w ao l) (hb : Below w.heap.size w w') : TgAt w' ao l := by
  rcases h with h | ⟨b, o, h1, h2, h3⟩
  · exact Or.inl h
  · exact Or.inr ⟨b, o, h1, Nat.lt_of_lt_of_le h2 hb.size, fun j hj i v hi => by rw [hb.cell (p := ⟨b, _, none⟩) h2]; exact h3 j hj i v hi⟩
set_option maxRecDepth 100000 in
theorem index_none (ao : Option Addr) (cap : Nat) (x : Tg) (w : World) : Calls Tryd.prog 41 #[.slice ao 0 cap, .agg (encT x).toArray] w (Grew (.int .i64 (-1)) w) := by
  obtain ⟨xk, xs, xn⟩ := x
  simp only [encT]
  go_enter Tryd.func41, Tryd.ntmps41
  go_wp2_with fail
  refine wp_loop_rounds 1 ?_
  rw [rounds_succ]
  go_wp2_with fail
  go_ret
  exact ⟨rfl, (Below.refl _ w).alloc (Nat.le_refl _) _⟩
set_option maxRecDepth 100000 in
theorem contains_none (ao : Option Addr) (cap : Nat) (x : Tg) (w : World) : Calls Tryd.prog 31 #[.slice ao 0 cap, .agg (encT x).toArray] w (Grew (.bool false) w) := by
  have HI := Lib.hid (index_none ao cap x)
  obtain ⟨xk, xs, xn⟩ := x
  simp only [encT] at *
  have HB : Hid (Below w.heap.size w (w.alloc (.cells #[.int .i64 xk, .string xs, .int .i64 xn] 23))) := Lib.hid ((Below.refl _ w).alloc (Nat.le_refl _) _)
  go_enter Tryd.func31, Tryd.ntmps31
  go_wp2_with (go_at_call 41; refine (HI.out _).mono ?_; rintro e w' ⟨rfl, hb⟩)
  go_ret
  exact ⟨rfl, HB.out.trans (hb.mono HB.out.size)⟩
theorem contains_any (ao : Option Addr) (cap : Nat) (l : List Tg) (hl : l.length ≤ 1000000000) (x : Tg) (w : World) (h : TgAt w ao l) :
    Calls Tryd.prog 31 #[.slice ao l.length cap, .agg (encT x).toArray] w (Grew (.bool (l.any fun y => eqT x y)) w) := by
  rcases h with rfl | ⟨b, o, rfl, h2, h3⟩
  · exact contains_none ao cap x w
  · have := AnyQ.slices_Contains Tryd.layContains 3 Tryd.isAgg23 Tryd.sizeOf23 encT (fun _ => rfl) eqT eqAt b o l.length cap l x w (Nat.le_refl _) (by omega) h3
    rw [List.take_length] at this
    exact this
set_option maxRecDepth 100000 in
theorem has_any (ao : Option Addr) (cap : Nat) (l : List Tg) (hl : l.length ≤ 1000000000) (x : Tg) (w : World) (h : TgAt w ao l) :
    Calls Tryd.prog 15 #[.slice ao l.length cap, .agg (encT x).toArray] w (Grew (.bool (l.any fun y => eqT x y)) w) := by
  have HI := Lib.hid (fun w' hb => contains_any ao cap l hl x w' (h.below hb))
  generalize (l.any fun y => eqT x y) = r at *
  generalize l.length = n at *
  obtain ⟨xk, xs, xn⟩ := x
  simp only [encT] at *
  clear h
  have HB : Hid (Below w.heap.size w (w.alloc (.cells #[.int .i64 xk, .string xs, .int .i64 xn] 23))) := Lib.hid ((Below.refl _ w).alloc (Nat.le_refl _) _)
  go_enter Tryd.func15, Tryd.ntmps15
  go_wp2_with (go_at_call 31; refine (HI.out _ HB.out).mono ?_; rintro e w' ⟨rfl, hb⟩)
  go_ret
  exact ⟨rfl, HB.out.trans (hb.mono HB.out.size)⟩
set_option maxRecDepth 100000 in
theorem waits_any (x : Tg) (w : World) : Calls Tryd.prog 17 #[.agg (encT x).toArray] w (Grew (.bool (x.k == 2 || x.k == 4)) w) := by
  obtain ⟨xk, xs, xn⟩ := x
  simp only [encT]
  cases h2 : (xk == 2) <;> cases h4 : (xk == 4)
  all_goals
    go_enter Tryd.func17, Tryd.ntmps17
    go_wp2_with fail
    go_ret
    exact ⟨rfl, (Below.refl _ w).alloc (Nat.le_refl _) _⟩
set_option maxRecDepth 100000 in
theorem bare_any (x : Tg) (w : World) : Calls Tryd.prog 19 #[.agg (encT x).toArray] w (Grew (.bool (x.k == 5 || x.k == 6)) w) := by
  obtain ⟨xk, xs, xn⟩ := x
  simp only [encT]
  cases h2 : (xk == 5) <;> cases h4 : (xk == 6)
  all_goals
    go_enter Tryd.func19, Tryd.ntmps19
    go_wp2_with fail
    go_ret
    exact ⟨rfl, (Below.refl _ w).alloc (Nat.le_refl _) _⟩
end Go.Proofs.YtcplajplbocieaaDoor
