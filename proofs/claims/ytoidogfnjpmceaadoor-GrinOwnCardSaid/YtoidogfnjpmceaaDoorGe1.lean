/- slices.Equal of two lists of texts, of values; '==' of tags. No conditions. -/
import Derived.Test.YtoidogfnjpmceaaDoorGe0
import Derived.Deep.QuietTactic
import Derived.BigQuiet
import Derived.Laws.StructEq
import Derived.Deep.RegionHeld3
import Derived.Deep.DrawnRows
namespace Go.Proofs.YtoidogfnjpmceaaDoor
open Go.ChangeShapes Go.WideShapes Go.ChangeAt Go.RowKit
theorem below_dn {B : Nat} {a w : World} (h : Below B a w) (q : Nat) : Below B a (w.drewN q) := ⟨h.os, h.tape, h.output, h.size, h.block⟩
attribute [local go_sem ↓] Go.wp_at_zero Go.wp_at_succ

theorem tagEql (x y : Tg) (w : World) : Sem.run Tryd.prog (binOp .eql 25 (.agg #[.int .i64 x.k, .string x.s, .int .i64 x.n]) (.agg #[.int .i64 y.k, .string y.s, .int .i64 y.n])) w = .ok (.bool (tgEq x y)) w := by
  have u3 := Tryd.underlying3
  have a3 := Tryd.isAgg3
  have z3 := Tryd.sizeOf3
  have u4 := Tryd.underlying2
  have a4 := Tryd.isAgg2
  have z4 := Tryd.sizeOf2
  have u9 := Tryd.underlying9
  have a9 := Tryd.isAgg9
  have z9 := Tryd.sizeOf9
  have hS : Tryd.prog.underlying 25 = some (.struct (Tryd.prog.fieldsOf 25)) := by kernel_rfl
  have hp : Tryd.prog.stoodInHeld 25 = false := by kernel_rfl
  obtain ⟨xk, xs, xn⟩ := x
  obtain ⟨yk, ys, yn⟩ := y
  simp only [tgEq]
  rw [run_eql_struct, show (10000 : Nat) = 9999 + 1 from rfl, run_equalIn_agg w 9999 25 _ _ hS hp]
  simp only [Program.fieldsOf, Tryd.underlying25]
  go_simp
  by_cases h1 : xk = yk <;> by_cases h2 : xs.toList = ys.toList <;> by_cases h3 : xn = yn <;> simp [h1, h2, h3]
theorem tagEql_g (op : BinOp) (a b : Operand) (x y : Tg) (w : World) : Sem.run Tryd.prog (eqGuard op 25 a b (.agg #[.int .i64 x.k, .string x.s, .int .i64 x.n]) (.agg #[.int .i64 y.k, .string y.s, .int .i64 y.n])) w = .ok () w :=
  run_eqGuard_agg w op 25 a b _ _ (by kernel_rfl)
theorem valNeq (x y : Vl) (w : World) : Sem.run Tryd.prog (binOp .neq 36 (.agg #[.int .i64 x.k, .string x.s, .int .i64 x.n]) (.agg #[.int .i64 y.k, .string y.s, .int .i64 y.n])) w = .ok (.bool (!vlE x y)) w := by
  have u3 := Tryd.underlying3
  have a3 := Tryd.isAgg3
  have z3 := Tryd.sizeOf3
  have u4 := Tryd.underlying2
  have a4 := Tryd.isAgg2
  have z4 := Tryd.sizeOf2
  have u9 := Tryd.underlying9
  have a9 := Tryd.isAgg9
  have z9 := Tryd.sizeOf9
  have hS : Tryd.prog.underlying 36 = some (.struct (Tryd.prog.fieldsOf 36)) := by kernel_rfl
  have hp : Tryd.prog.stoodInHeld 36 = false := by kernel_rfl
  obtain ⟨xk, xs, xn⟩ := x
  obtain ⟨yk, ys, yn⟩ := y
  simp only [vlE]
  rw [run_neq_struct, show (10000 : Nat) = 9999 + 1 from rfl, run_equalIn_agg w 9999 36 _ _ hS hp]
  simp only [Program.fieldsOf, Tryd.underlying36]
  go_simp
  by_cases h1 : xk = yk <;> by_cases h2 : xs.toList = ys.toList <;> by_cases h3 : xn = yn <;> simp [h1, h2, h3]
theorem valNeq_g (op : BinOp) (a b : Operand) (x y : Vl) (w : World) : Sem.run Tryd.prog (eqGuard op 36 a b (.agg #[.int .i64 x.k, .string x.s, .int .i64 x.n]) (.agg #[.int .i64 y.k, .string y.s, .int .i64 y.n])) w = .ok () w :=
  run_eqGuard_agg w op 36 a b _ _ (by kernel_rfl)
set_option maxRecDepth 100000 in
set_option maxHeartbeats 8000000 in
theorem txEqual_any (l l' : List ByteArray) (v v' : Value) (w : World) (h : SlAt w v l.length fun b o => TxIn w l b o) (h' : SlAt w v' l'.length fun b o => TxIn w l' b o) :
    Calls Tryd.prog 66 #[v, v'] w (Grew (.bool (txEq l l')) w) := by
  obtain ⟨hn, ao, cap, rfl, -, hs⟩ := h
  obtain ⟨hn', ao', cap', rfl, -, hs'⟩ := h'
  have HS := Lib.hid hs
  have HS' := Lib.hid hs'
  obtain ⟨n, hnn⟩ : ∃ n, n = l.length := ⟨_, rfl⟩
  obtain ⟨n', hnn'⟩ : ∃ n, n = l'.length := ⟨_, rfl⟩
  have HN := Lib.hid hnn
  have HN' := Lib.hid hnn'
  rw [← hnn] at hn HS ⊢
  rw [← hnn'] at hn' HS' ⊢
  have hx : (n : Int) ≤ 140737488355328 := by have : n ≤ 140737488355328 := hn; omega
  have hx' : (n' : Int) ≤ 140737488355328 := by have : n' ≤ 140737488355328 := hn'; omega
  obtain ⟨X, hX⟩ : ∃ X, X = txEq l l' := ⟨_, rfl⟩
  have HX : Hid (X = txEq (l.drop 0) (l'.drop 0)) := Lib.hid hX
  by_cases hne : n = n'
  · subst hne
    rw [← hX]
    clear hs hs' hn hn' hnn hnn' hX
    have hnn : ((n : Int) == (n : Int)) = true := by simp
    go_enter Tryd.func66, Tryd.ntmps66
    go_wp2_with fail
    go_loopw [13] (fun vi wr => ∃ (i : Nat), vi = .int .i64 (i : Int) ∧ i ≤ n ∧ Hid (Below w.heap.size w wr) ∧ Hid (X = txEq (l.drop i) (l'.drop i))) (fun vi _ => n + 1 - (intOf vi).toNat)
    case atStart => exact ⟨0, rfl, by omega, Lib.hid (Below.refl _ _), HX⟩
    case round =>
      clear HX
      obtain ⟨i, rfl, hin, HB, HX⟩ := hrel
      by_cases hii : (i : Int) < (n : Int)
      · have hi0 : (0 : Int) ≤ (i : Int) := by omega
        have hi1 : i < l.length := by have := HN.out; omega
        have hi2 : i < l'.length := by have := HN'.out; omega
        obtain ⟨b, o, rfl, hbw, ht⟩ := HS.out (by omega)
        obtain ⟨b', o', rfl, hbw', ht'⟩ := HS'.out (by omega)
        have c0 := (HB.out.cell (p := ⟨b, o + i, none⟩) hbw).trans (ht i hi1).1
        have c1 := (HB.out.cell (p := ⟨b', o' + i, none⟩) hbw').trans (ht' i hi2).1
        have HXX := HX.out
        rw [drop_two hi1, drop_two hi2] at HXX
        obtain ⟨s, hs⟩ : ∃ s, s = l[i] := ⟨_, rfl⟩
        obtain ⟨s', hs'⟩ : ∃ s, s = l'[i] := ⟨_, rfl⟩
        rw [← hs] at c0 HXX
        rw [← hs'] at c1 HXX
        simp only [txEq] at HXX
        have HXX := Lib.hid HXX
        clear hs hs' ht ht' hi1 hi2 HX
        cases hc : (s.toList == s'.toList)
        · have hc2 : (s.toList != s'.toList) = true := by simp [bne, hc]
          have HT : Hid (X = false) := Lib.hid (by rw [HXX.out, hc]; rfl)
          go_wp2_with fail
          go_region_held3 (fun w' => w'.cell? ⟨b, o + i, none⟩ = some (.string s) ∧ w'.cell? ⟨b', o' + i, none⟩ = some (.string s')) (go_keep) (fail)
          all_goals (
            go_wp2_with fail
            go_ret
            exact ⟨by rw [HT.out]; rfl, Below.drew HB.out⟩)
        · have hc2 : (s.toList != s'.toList) = false := by simp [bne, hc]
          have HT : Hid (X = txEq (l.drop (i + 1)) (l'.drop (i + 1))) := Lib.hid (by have := HXX.out; rw [hc] at this; simpa using this)
          go_wp2_with fail
          go_region_held3 (fun w' => w'.cell? ⟨b, o + i, none⟩ = some (.string s) ∧ w'.cell? ⟨b', o' + i, none⟩ = some (.string s')) (go_keep) (fail)
          all_goals (
            go_wp2_with fail
            go_roundw
            case rel => exact ⟨i + 1, by go_num, by omega, Lib.hid (Below.drew HB.out), HT⟩
            case measure => simp [intOf]; omega)
      · have HT : Hid (X = true) := Lib.hid (by rw [HX.out, List.drop_eq_nil_of_le (by have := HN.out; omega), List.drop_eq_nil_of_le (by have := HN'.out; omega)]; rfl)
        go_wp2_with fail
        go_ret
        exact ⟨by rw [HT.out]; rfl, HB.out⟩
  · have hf : txEq l l' = false := by
      cases h : txEq l l'
      · rfl
      · have := txEq_len h; omega
    have hnn2 : ((n : Int) == (n' : Int)) = false := by simp; omega
    rw [hf]
    clear hs hs' hn hn' hnn hnn' hX hf HX
    go_enter Tryd.func66, Tryd.ntmps66
    go_wp2_with fail
    go_ret
    exact ⟨rfl, Below.refl _ _⟩
set_option maxRecDepth 100000 in
set_option maxHeartbeats 8000000 in
theorem vlEqual_any (l l' : List Vl) (v v' : Value) (w : World) (h : SlAt w v l.length fun b o => VlIn w l b o) (h' : SlAt w v' l'.length fun b o => VlIn w l' b o) :
    Calls Tryd.prog 82 #[v, v'] w (Grew (.bool (vlEq l l')) w) := by
  obtain ⟨hn, ao, cap, rfl, -, hs⟩ := h
  obtain ⟨hn', ao', cap', rfl, -, hs'⟩ := h'
  have HS := Lib.hid hs
  have HS' := Lib.hid hs'
  obtain ⟨n, hnn⟩ : ∃ n, n = l.length := ⟨_, rfl⟩
  obtain ⟨n', hnn'⟩ : ∃ n, n = l'.length := ⟨_, rfl⟩
  have HN := Lib.hid hnn
  have HN' := Lib.hid hnn'
  rw [← hnn] at hn HS ⊢
  rw [← hnn'] at hn' HS' ⊢
  have hx : (n : Int) ≤ 140737488355328 := by have : n ≤ 140737488355328 := hn; omega
  have hx' : (n' : Int) ≤ 140737488355328 := by have : n' ≤ 140737488355328 := hn'; omega
  obtain ⟨X, hX⟩ : ∃ X, X = vlEq l l' := ⟨_, rfl⟩
  have HX : Hid (X = vlEq (l.drop 0) (l'.drop 0)) := Lib.hid hX
  by_cases hne : n = n'
  · subst hne
    rw [← hX]
    clear hs hs' hn hn' hnn hnn' hX
    have hnn : ((n : Int) == (n : Int)) = true := by simp
    go_enter Tryd.func82, Tryd.ntmps82
    go_wp2_with fail
    go_loopw [13] (fun vi wr => ∃ (i : Nat), vi = .int .i64 (i : Int) ∧ i ≤ n ∧ Hid (Below w.heap.size w wr) ∧ Hid (X = vlEq (l.drop i) (l'.drop i))) (fun vi _ => n + 1 - (intOf vi).toNat)
    case atStart => exact ⟨0, rfl, by omega, Lib.hid (Below.refl _ _), HX⟩
    case round =>
      clear HX
      obtain ⟨i, rfl, hin, HB, HX⟩ := hrel
      by_cases hii : (i : Int) < (n : Int)
      · have hi0 : (0 : Int) ≤ (i : Int) := by omega
        have hi1 : i < l.length := by have := HN.out; omega
        have hi2 : i < l'.length := by have := HN'.out; omega
        obtain ⟨b, o, rfl, hbw, ht⟩ := HS.out (by omega)
        obtain ⟨b', o', rfl, hbw', ht'⟩ := HS'.out (by omega)
        obtain ⟨x0, x1, x2, -, -, -⟩ := ht i hi1
        obtain ⟨z0, z1, z2, -, -, -⟩ := ht' i hi2
        have HXX := HX.out
        rw [drop_two hi1, drop_two hi2] at HXX
        obtain ⟨x, hxx⟩ : ∃ x, x = l[i] := ⟨_, rfl⟩
        obtain ⟨y, hyy⟩ : ∃ y, y = l'[i] := ⟨_, rfl⟩
        rw [← hxx] at x0 x1 x2 HXX
        rw [← hyy] at z0 z1 z2 HXX
        have c0 := (HB.out.cell (p := ⟨b, o + i * 3, none⟩) hbw).trans x0
        have c1 := (HB.out.cell (p := ⟨b, o + i * 3 + 1, none⟩) hbw).trans x1
        have c2 := (HB.out.cell (p := ⟨b, o + i * 3 + 2, none⟩) hbw).trans x2
        have p0 := (HB.out.cell (p := ⟨b', o' + i * 3, none⟩) hbw').trans z0
        have p1 := (HB.out.cell (p := ⟨b', o' + i * 3 + 1, none⟩) hbw').trans z1
        have p2 := (HB.out.cell (p := ⟨b', o' + i * 3 + 2, none⟩) hbw').trans z2
        have heq := valNeq x y
        have hgd := fun a b => valNeq_g .neq a b x y
        simp only [vlEq] at HXX
        obtain ⟨c, hc⟩ : ∃ c, c = vlE x y := ⟨_, rfl⟩
        rw [← hc] at heq HXX
        have HXX := Lib.hid HXX
        clear hc hxx hyy ht ht' x0 x1 x2 z0 z1 z2 hi1 hi2 HX
        cases c
        · have HT : Hid (X = false) := Lib.hid (by rw [HXX.out]; rfl)
          go_wp2_with fail
          go_quiet (fail)
          go_wp2_with fail
          go_ret
          exact ⟨by rw [HT.out]; rfl, below_dn HB.out _⟩
        · have HT : Hid (X = vlEq (l.drop (i + 1)) (l'.drop (i + 1))) := Lib.hid (by have := HXX.out; simpa using this)
          go_wp2_with fail
          go_quiet (fail)
          go_wp2_with fail
          go_roundw
          case rel => exact ⟨i + 1, by go_num, by omega, Lib.hid (below_dn HB.out _), HT⟩
          case measure => simp [intOf]; omega
      · have HT : Hid (X = true) := Lib.hid (by rw [HX.out, List.drop_eq_nil_of_le (by have := HN.out; omega), List.drop_eq_nil_of_le (by have := HN'.out; omega)]; rfl)
        go_wp2_with fail
        go_ret
        exact ⟨by rw [HT.out]; rfl, HB.out⟩
  · have hf : vlEq l l' = false := by
      cases h : vlEq l l'
      · rfl
      · have := vlEq_len h; omega
    have hnn2 : ((n : Int) == (n' : Int)) = false := by simp; omega
    rw [hf]
    clear hs hs' hn hn' hnn hnn' hX hf HX
    go_enter Tryd.func82, Tryd.ntmps82
    go_wp2_with fail
    go_ret
    exact ⟨rfl, Below.refl _ _⟩
end Go.Proofs.YtoidogfnjpmceaaDoor
