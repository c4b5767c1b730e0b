/- Tags: slices.Compact at tags: its contract. Conditions: the row's length; how it lies in memory. -/
import Derived.Test.YtcplajplbocieaaDoorTg3
import Derived.Shelf.RegionOpenPlain
import Derived.WalkKit
import Derived.Deep.LoopGhost
import Derived.Deep.Draws
import Derived.Deep.QuietTactic
import Derived.Lib.Walk
import Derived.Lib.SliceRun
import Derived.Lib.SlicesCompact
import Derived.Shelf.SlSortCmp.InsertionK
import Derived.Below
namespace Go.Proofs.YtcplajplbocieaaDoor
open Go.RowKit Go.Sort Go.Lib

instance : DecidableEq Tg := fun x y => decidable_of_iff (eqT x y = true) (eqT_iff x y)
theorem below_dn {B : Nat} {a w : World} (h : Below B a w) (q : Nat) : Below B a (w.drewN q) := ⟨h.os, h.tape, h.output, h.size, h.block⟩
theorem below_scs {B : Nat} {a : World} (b : Nat) (hb : B ≤ b) : ∀ (vs : List Value) (o : Nat) (w : World), Below B a w → Below B a (w.setCells b o vs)
  | [], _, _, h => h
  | v :: r, o, w, h => by rw [World.setCells]; exact below_scs b hb r (o + 1) _ (h.setCell (p := ⟨b, o, none⟩) hb v)
theorem len_encT (x : Tg) : (encT x).length = 3 := rfl
theorem one_encT (x : Tg) : ∀ v ∈ encT x, v.oneCell' = true := by
  intro v hv
  simp only [encT, List.mem_cons, List.not_mem_nil, or_false] at hv
  rcases hv with rfl | rfl | rfl <;> rfl
/-- One element of the row stored anew. -/
theorem setMany_set (d : Array Tg) (k : Nat) (hk : k < d.size) (x : Tg) : setMany (flatK encT 3 d) (k * 3) (encT x) = flatK encT 3 (d.setIfInBounds k x) := by
  refine ext_get! (by simp) fun t ht => ?_
  have ht' : t < d.size * 3 := by simpa using ht
  rw [get_setMany _ _ _ t (by simpa using ht'), get_flatK _ _ _ t ht', get_flatK _ _ _ t (by simpa using ht'), len_encT]
  by_cases a : t / 3 = k
  · rw [if_pos ((blk_iff 3 k t (by omega)).2 a)]
    have e : (d.setIfInBounds k x)[t / 3]! = x := by rw [a, getElem!_set_same d k x hk]
    rw [e, show t - k * 3 = t % 3 by omega]
  · rw [if_neg (fun h => a ((blk_iff 3 k t (by omega)).1 h)), getElem!_set_other d k _ x a]
theorem holdsT_set {w : World} {g o : Nat} {d : Array Tg} (h : HoldsK encT 3 w g o d) (k : Nat) (hk : k < d.size) (x : Tg) : HoldsK encT 3 (w.setCells g (o + k * 3) (encT x)) g o (d.setIfInBounds k x) := by
  have := Go.Proofs.holds_setCells_c h (k * 3) (encT x) (by rw [len_encT, size_flatK]; omega)
  rw [setMany_set d k hk x] at this
  exact this
abbrev zeroT : Array Value := #[.int .i64 0, .string ⟨#[]⟩, .int .i64 0]
theorem zeros_one (n : Nat) : ∀ v ∈ (Builtin.zeroCells zeroT n).toList, v.oneCell' = true := by
  intro v hv
  simp only [Builtin.zeroCells, Array.toList_map, List.mem_map] at hv
  obtain ⟨i, _, rfl⟩ := hv
  have h3 : i % 3 = 0 ∨ i % 3 = 1 ∨ i % 3 = 2 := by omega
  show (zeroT[i % 3]!).oneCell' = true
  rcases h3 with h | h | h <;> rw [h] <;> rfl
theorem clear_any (w : World) (ty : TypeId) (b o n c : Nat) (hn : 0 < n) (hc : ∀ j, j < n * 3 → (w.cell? ⟨b, o + j, none⟩).isSome = true) (hf : ∀ j, j < n * 3 → w.frozen? ⟨b, o + j, none⟩ = false) :
    (Builtin.clear_ #[24] ty #[.slice (some ⟨b, o, none⟩) n c]).run Tryd.prog w = .ok (.tuple #[]) (w.setCells b o (Builtin.zeroCells zeroT n).toList) := by
  have hl : (Builtin.zeroCells zeroT n).toList.length = n * 3 := by simp [Builtin.zeroCells]
  have hzc : (Value.agg zeroT).cells = zeroT := rfl
  have hst := run_storeCells_cells (P := Tryd.prog) b o (Builtin.zeroCells zeroT n).toList 0 w (by simpa only [hl, Nat.add_zero] using hc) (by simpa only [hl, Nat.add_zero] using hf) (zeros_one n)
  simp only [Nat.add_zero] at hst
  obtain ⟨m, rfl⟩ : ∃ m, n = m + 1 := ⟨n - 1, by omega⟩
  simp [Builtin.clear_, run_underlying Tryd.underlying24, hzc]
  rw [hst]
  rfl
set_option maxRecDepth 100000 in
set_option maxHeartbeats 4000000 in
theorem compact_any (g o cap B : Nat) (d : Array Tg) (w0 w : World) (heq : EqlAt Tryd.prog 23 (fun x => .agg (encT x).toArray) eqT) (hneq : ∀ (x y : Tg) (w : World), Sem.run Tryd.prog (binOp .neq 23 (.agg (encT x).toArray) (.agg (encT y).toArray)) w = .ok (.bool (!eqT x y)) w) (hH : HoldsK encT 3 w g o d) (hg : g < w.heap.size) (hB : B ≤ g) (hBW : Below B w0 w) (hsz : d.size ≤ 1000000) (hcap : d.size ≤ cap) :
    Calls Tryd.prog 29 #[.slice (some ⟨g, o, none⟩) d.size cap] w fun e w' => e = .returned (.slice (some ⟨g, o, none⟩) (compactUpTo d d.size).length cap) ∧ (Below B w0 w' ∧ g < w'.heap.size) ∧
      ∀ j, j < (compactUpTo d d.size).length → ∀ i v, (encT (compactUpTo d d.size)[j]!)[i]? = some v → w'.cell? ⟨g, o + j * 3 + i, none⟩ = some v := by
  have heq' : ∀ (x y : Tg) (w : World), Sem.run Tryd.prog (binOp .eql 23 (.agg (encT x).toArray) (.agg (encT y).toArray)) w = .ok (.bool (eqT x y)) w := heq.1
  have hgd' : ∀ (op : BinOp) (a b : Operand) (x y : Tg) (w : World), Sem.run Tryd.prog (eqGuard op 23 a b (.agg (encT x).toArray) (.agg (encT y).toArray)) w = .ok () w := heq.2
  have HEQ := Lib.hid heq'
  have HGD := Lib.hid hgd'
  have HNQ := Lib.hid hneq
  clear heq heq' hgd' hneq
  have done : ∀ wr : World, HoldsK encT 3 wr g o d → (∀ j, j < d.size → keeps d j = true) → (compactUpTo d d.size).length = d.size ∧ ∀ j, j < (compactUpTo d d.size).length → ∀ i v, (encT (compactUpTo d d.size)[j]!)[i]? = some v → wr.cell? ⟨g, o + j * 3 + i, none⟩ = some v := by
    intro wr hh hall
    have e : compactUpTo d d.size = d.toList := by rw [compactUpTo_all d _ hall, range_map_get]
    rw [e]
    refine ⟨by simp, fun j hj i v hi => ?_⟩
    have hj' : j < d.size := by simpa using hj
    have ei : i < 3 := by
      rcases Nat.lt_or_ge i 3 with h | h
      · exact h
      · rw [List.getElem?_eq_none (by rw [len_encT]; exact h)] at hi; cases hi
    have h1 := (HoldsK.cell hh hj' ei).1
    rw [h1]
    have e2 : d.toList[j]! = d[j]! := by simp [hj', getElem!_pos]
    rw [e2] at hi
    rw [List.getElem!_eq_getElem?_getD, hi]; rfl
  have HD : Aside _ := done
  clear done
  by_cases h2 : d.size < 2
  · have h2' : (d.size : Int) < 2 := by omega
    obtain ⟨e1, e2⟩ := HD w hH (fun j hj => keeps_lt_one d j (by omega))
    have HE := Lib.hid (And.intro e1 (And.intro (And.intro hBW hg) e2))
    clear e1 e2 hH hBW
    go_enter Tryd.func29, Tryd.ntmps29
    go_wp2_with fail
    go_ret
    exact ⟨by rw [HE.out.1]; rfl, HE.out.2⟩
  · have h2' : ¬ (d.size : Int) < 2 := by omega
    have HH : Aside (HoldsK encT 3 w g o d) := hH
    have HBW := Lib.hid hBW
    clear hH hBW
    go_enter Tryd.func29, Tryd.ntmps29
    go_wp2_with fail
    go_loopg [3] d.size (fun gg s3 wr => ∃ k q : Nat, 1 ≤ k ∧ k ≤ d.size ∧ d.size - k ≤ gg ∧ s3 = .int .i64 k ∧ wr = w.drewN q ∧ ∀ j, j < k → keeps d j = true)
    case atStart => exact ⟨1, 0, Nat.le_refl _, by omega, by omega, rfl, rfl, keeps_lt_one d⟩
    case round =>
      obtain ⟨k, q, hk1, hk, hgm, rfl, rfl, hall⟩ := hrel
      have A : Aside (∀ j, j < k → keeps d j = true) := hall
      clear hall
      by_cases hlt : k < d.size
      · have hltz : (k : Int) < (d.size : Int) := by omega
        obtain ⟨x, hx⟩ : ∃ x, d[k]! = x := ⟨_, rfl⟩
        obtain ⟨y, hy⟩ : ∃ y, d[k - 1]! = y := ⟨_, rfl⟩
        have BX : Aside (d[k]! = x ∧ d[k - 1]! = y) := ⟨hx, hy⟩
        have c0 := (HoldsK.cell HH (i := k) (c := 0) hlt (by omega)).1
        have c1 := (HoldsK.cell HH (i := k) (c := 1) hlt (by omega)).1
        have c2 := (HoldsK.cell HH (i := k) (c := 2) hlt (by omega)).1
        have p0 := (HoldsK.cell HH (i := k - 1) (c := 0) (by omega) (by omega)).1
        have p1 := (HoldsK.cell HH (i := k - 1) (c := 1) (by omega) (by omega)).1
        have p2 := (HoldsK.cell HH (i := k - 1) (c := 2) (by omega) (by omega)).1
        rw [hx] at c0 c1 c2
        rw [hy] at p0 p1 p2
        have heq := HEQ.out x y
        have hgd := HGD.out .eql
        obtain ⟨xk, xs, xn⟩ := x
        obtain ⟨yk, ys, yn⟩ := y
        simp only [Nat.add_zero] at c0 p0
        change _ = some (Value.int .i64 xk) at c0
        change _ = some (Value.string xs) at c1
        change _ = some (Value.int .i64 xn) at c2
        change _ = some (Value.int .i64 yk) at p0
        change _ = some (Value.string ys) at p1
        change _ = some (Value.int .i64 yn) at p2
        have hgd := fun a b => HGD.out .eql a b ⟨xk, xs, xn⟩ ⟨yk, ys, yn⟩
        simp only [encT] at heq hgd
        clear hx hy
        cases hq : eqT ⟨xk, xs, xn⟩ ⟨yk, ys, yn⟩ with
        | true =>
          rw [hq] at heq
          go_wp2_with fail
          go_quiet (fail)
          go_wp2_with fail
          clear c0 c1 c2 p0 p1 p2 heq hgd
          have hxy : (⟨xk, xs, xn⟩ : Tg) = ⟨yk, ys, yn⟩ := (eqT_iff _ _).1 hq
          go_loopg [3, 5] d.size (fun gg s3 s5 wr => ∃ (kk k2 : Nat) (dk : Array Tg), s3 = .int .i64 kk ∧ s5 = .int .i64 k2 ∧ 1 ≤ k2 ∧ k + k2 ≤ d.size ∧ d.size - (k + k2) ≤ gg ∧ HoldsK encT 3 wr g o dk ∧ Below B w0 wr ∧ g < wr.heap.size ∧ CompInv d (k + k2) kk dk)
          case atStart => exact ⟨k, 1, d, rfl, rfl, Nat.le_refl _, by omega, by omega, HH, below_dn HBW.out (q + nq), hg, CompInv.start A (keeps_neg (by omega) (by rw [BX.1, BX.2, hxy]))⟩
          case round =>
            obtain ⟨kk, k2, dk, rfl, rfl, h1, hle, hg2, hHk, hbk, hgk, hI⟩ := hrel
            have hkk := hI.lt
            have hds := hI.size
            have H2 := Lib.hid (And.intro hHk (And.intro hbk (And.intro hgk hI)))
            by_cases hlt2 : k + k2 < d.size
            · obtain ⟨u, hu⟩ : ∃ u, d[k + k2]! = u := ⟨_, rfl⟩
              obtain ⟨v, hv⟩ : ∃ v, d[k + k2 - 1]! = v := ⟨_, rfl⟩
              have CX : Aside (d[k + k2]! = u ∧ d[k + k2 - 1]! = v) := ⟨hu, hv⟩
              have e1 : o + (k + k2) * 3 = o + k * 3 + k2 * 3 := by omega
              have e2 : o + (k + k2 - 1) * 3 = o + k * 3 + (k2 - 1) * 3 := by omega
              have g0 := (HoldsK.cell hHk (i := k + k2) (c := 0) (by omega) (by omega)).1
              have g1 := (HoldsK.cell hHk (i := k + k2) (c := 1) (by omega) (by omega)).1
              have g2 := (HoldsK.cell hHk (i := k + k2) (c := 2) (by omega) (by omega)).1
              have r0 := (HoldsK.cell hHk (i := k + k2 - 1) (c := 0) (by omega) (by omega)).1
              have r1 := (HoldsK.cell hHk (i := k + k2 - 1) (c := 1) (by omega) (by omega)).1
              have r2 := (HoldsK.cell hHk (i := k + k2 - 1) (c := 2) (by omega) (by omega)).1
              obtain ⟨m0, f0⟩ := HoldsK.cell hHk (i := kk) (c := 0) (by omega) (by omega)
              obtain ⟨m1, f1⟩ := HoldsK.cell hHk (i := kk) (c := 1) (by omega) (by omega)
              obtain ⟨m2, f2⟩ := HoldsK.cell hHk (i := kk) (c := 2) (by omega) (by omega)
              rw [hI.high (k + k2) (by omega), hu, e1] at g0 g1 g2
              rw [hI.high (k + k2 - 1) (by omega), hv, e2] at r0 r1 r2
              clear hHk hbk hgk hI hu hv e1 e2
              obtain ⟨uk, us, un⟩ := u
              obtain ⟨vk, vs, vn⟩ := v
              generalize dk[kk]! = old at m0 m1 m2
              obtain ⟨ok, os, on⟩ := old
              simp only [Nat.add_zero] at g0 r0 m0 f0
              change _ = some (Value.int .i64 uk) at g0
              change _ = some (Value.string us) at g1
              change _ = some (Value.int .i64 un) at g2
              change _ = some (Value.int .i64 vk) at r0
              change _ = some (Value.string vs) at r1
              change _ = some (Value.int .i64 vn) at r2
              change _ = some (Value.int .i64 ok) at m0
              change _ = some (Value.string os) at m1
              change _ = some (Value.int .i64 on) at m2
              have hlz2 : (k2 : Int) < ((d.size - k : Nat) : Int) := by omega
              have hkkz : (kk : Int) < (d.size : Int) := by omega
              have heq := HNQ.out ⟨uk, us, un⟩ ⟨vk, vs, vn⟩
              have hgd := fun a b => HGD.out .neq a b ⟨uk, us, un⟩ ⟨vk, vs, vn⟩
              simp only [encT] at heq hgd
              cases hq2 : eqT ⟨uk, us, un⟩ ⟨vk, vs, vn⟩ with
              | true =>
                rw [hq2] at heq
                go_wp2_with fail
                go_quiet (fail)
                go_wp2_with fail
                clear heq hgd g0 g1 g2 r0 r1 r2 m0 m1 m2 f0 f1 f2
                obtain ⟨hHk, hbk, hgk, hI⟩ := H2.out
                have huv : (⟨uk, us, un⟩ : Tg) = ⟨vk, vs, vn⟩ := (eqT_iff _ _).1 hq2
                go_roundg (d.size - (k + (k2 + 1)))
                case measure => omega
                case rel => exact ⟨kk, k2 + 1, dk, rfl, by go_num, by omega, by omega, Nat.le_refl _, hHk, below_dn hbk nq, hgk, hI.skip (keeps_neg (by omega) (by rw [CX.1, CX.2, huv]))⟩
              | false =>
                rw [hq2] at heq
                go_wp2_with fail
                go_quiet (fail)
                go_wp2_with fail
                clear heq hgd g0 g1 g2 r0 r1 r2 m0 m1 m2 f0 f1 f2
                obtain ⟨hHk, hbk, hgk, hI⟩ := H2.out
                have huv : (⟨uk, us, un⟩ : Tg) ≠ ⟨vk, vs, vn⟩ := fun e => by rw [(eqT_iff _ _).2 e] at hq2; cases hq2
                have hs1 := holdsT_set (w := wr.drewN nq) (d := dk) hHk kk (by omega) ⟨uk, us, un⟩
                have hs2 := below_scs g hB (encT ⟨uk, us, un⟩) (o + kk * 3) _ (below_dn hbk nq)
                have hs3 : g < ((wr.drewN nq).setCells g (o + kk * 3) (encT ⟨uk, us, un⟩)).heap.size := by rw [size_setCells]; exact hgk
                have hs4 := hI.keep hlt2 (keeps_pos (by rw [CX.1, CX.2]; exact huv))
                rw [CX.1] at hs4
                go_roundg (d.size - (k + (k2 + 1)))
                case measure => omega
                case rel => exact ⟨kk + 1, k2 + 1, dk.setIfInBounds kk ⟨uk, us, un⟩, by go_num, by go_num, by omega, by omega, Nat.le_refl _, hs1, hs2, hs3, hs4⟩
            · have hend : k + k2 = d.size := by omega
              have hcl : ∀ ty, (Builtin.clear_ #[24] ty #[.slice (some ⟨g, o + kk * 3, none⟩) (d.size - kk) (cap - kk)]).run Tryd.prog wr = .ok (.tuple #[]) (wr.setCells g (o + kk * 3) (Builtin.zeroCells zeroT (d.size - kk)).toList) := fun ty =>
                clear_any wr ty g (o + kk * 3) (d.size - kk) (cap - kk) (by omega)
                  (fun j hj => by
                    have := (HoldsK.cell hHk (i := kk + j / 3) (c := j % 3) (by omega) (by omega)).1
                    rw [show o + kk * 3 + j = o + (kk + j / 3) * 3 + j % 3 by omega, this]; rfl)
                  (fun j hj => by
                    have := (HoldsK.cell hHk (i := kk + j / 3) (c := j % 3) (by omega) (by omega)).2
                    rw [show o + kk * 3 + j = o + (kk + j / 3) * 3 + j % 3 by omega]; exact this)
              clear hHk hbk hgk hI
              generalize (Builtin.zeroCells zeroT (d.size - kk)).toList = zs at hcl
              have hkkz : (kk : Int) < (d.size : Int) := by omega
              have hlz2 : ¬ (k2 : Int) < ((d.size - k : Nat) : Int) := by omega
              go_wp2_with fail
              go_ret
              obtain ⟨hHk, hbk, hgk, hI⟩ := H2.out
              rw [hend] at hI
              refine ⟨by rw [hI.len]; rfl, ⟨below_scs g hB _ _ _ hbk, by rw [size_setCells]; exact hgk⟩, fun j hj i v hi => ?_⟩
              rw [hI.len] at hj
              have ei : i < 3 := by
                rcases Nat.lt_or_ge i 3 with h | h
                · exact h
                · rw [List.getElem?_eq_none (by rw [len_encT]; exact h)] at hi; cases hi
              have h1 := (HoldsK.cell hHk (i := j) (c := i) (by omega) ei).1
              first
                | rw [hI.low j hj] at hi
                | rw [List.getElem!_eq_getElem?_getD, hI.low j hj] at hi
              simp only [Option.getD_some] at hi
              rw [World.cell?_setCells_out g _ _ _ _ (fun _ _ => Or.inl (show o + j * 3 + i < o + kk * 3 by omega)), h1, List.getElem!_eq_getElem?_getD, hi]
              rfl
        | false =>
          rw [hq] at heq
          go_wp2_with fail
          go_quiet (fail)
          go_wp2_with fail
          clear heq hgd c0 c1 c2 p0 p1 p2
          have hxy : (⟨xk, xs, xn⟩ : Tg) ≠ ⟨yk, ys, yn⟩ := fun e => by rw [(eqT_iff _ _).2 e] at hq; cases hq
          go_roundg (d.size - (k + 1))
          case measure => omega
          case rel =>
            refine ⟨k + 1, q + nq, by omega, by omega, Nat.le_refl _, by go_num, rfl, fun j hj => ?_⟩
            by_cases e : j = k
            · subst e
              exact keeps_pos (by rw [BX.1, BX.2]; exact hxy)
            · exact A j (by omega)
      · have hke : k = d.size := by omega
        have hltz : ¬ (k : Int) < (d.size : Int) := by omega
        obtain ⟨e1, e2⟩ := HD (w.drewN q) HH (fun j hj => A j (by omega))
        have HE := Lib.hid (And.intro e1 (And.intro (And.intro (below_dn HBW.out q) (show g < (w.drewN q).heap.size from hg)) e2))
        clear e1 e2
        go_wp2_with fail
        go_ret
        exact ⟨by rw [HE.out.1]; rfl, HE.out.2.1, fun j hj i v hi => HE.out.2.2 j hj i v (by first | exact hi | (rw [List.getElem!_eq_getElem?_getD]; exact hi))⟩
end Go.Proofs.YtcplajplbocieaaDoor
